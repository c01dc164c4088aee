import PyProof.Rows.All
import Wide.All
import OpenK.AllK
import Wide.FinOn
import HandS.ForMost
import HandS.Wide
import HandS.TupAny
import HandS.IsInst
import HandS.Flow
import HandS.Evl
import HandS.Walk
import HandS.ExcInit
import HandS.Nested
import HandS.FStr
import HandS.TryOnly
import HandS.TryMany
import HandS.ExcIs
import HandS.ExcField
import HandS.WordsExc
import HandS.RaiseMore
import KE.KExcSuper
import KE.KExcIs
import PyProof.StrOps2
import PyProof.Rows.ReprOcc
import PyProof.Rows.StrDigits
import PyProof.Rows.StrJoinMade
import HandS.ClsMeth
import HandS.Star
import HandS.Property
import HandS.New
import HandS.ExcOwn
import HandS.More
import HandS.Dict
import HandS.Small
import KE.KOpsOwn
import OpenK.KMeth
import HandS.Conv
import HandS.Finally
import PyProof.StrLawsRepr
import HandS.Defaults
import HandS.Text
import HandS.IterVal
import KE.KOwnIter
import HandS.Strs
import HandS.Iter
import KE.GoesMore
import HandS.TupSets
import KE.Datum
import HandS.MakeKwOnly
import KE.KRevSl
import KE.KIntText
import KE.IntTextLaws
import HandS.Style
import PySem.Challenge.RW_elseput_k31_plan_text_and_read
set_option Elab.async false
set_option linter.all false
set_option maxRecDepth 100000
/-! Own words over the hand layer: readings that compute on the values' shapes. -/
namespace El
open PySem PySem.Spec PyProof.Rows L2
section
variable {X : Cx}

theorem wk {e : Expr} {t t' : TE} (h : PE X e t) (i : ∀ σ H Q, t' σ H Q → t σ H Q) : PE X e t' :=
  ⟨fun pins s σ H Q I q => h.run pins s σ H Q I (i σ H Q q)⟩
theorem opwk {f : Value → Value → Sem Value} {r r' : R2} (h : OpR X f r) (i : ∀ x y H Q, r' x y H Q → r x y H Q) : OpR X f r' :=
  fun pins s σ H x y v u Q I rx ry q => h pins s σ H x y v u Q I rx ry (i x y H Q q)
theorem unwk {f : Value → Sem Value} {r r' : V → Hp → VK → Prop} (h : UnR X f r) (i : ∀ x H Q, r' x H Q → r x H Q) : UnR X f r' :=
  fun pins s σ H x v Q I rx q => h pins s σ H x v Q I rx (i x H Q q)
theorem cwk {f : Value} {r r' : List V → Hp → VK → Prop} (h : CallR X f r) (i : ∀ x H Q, r' x H Q → r x H Q) : CallR X f r' :=
  fun pins s σ H x v Q I rx q => h pins s σ H x v Q I rx (i x H Q q)
theorem ixwk {r r' : R2} (h : IxR X r) (i : ∀ x y H Q, r' x y H Q → r x y H Q) : IxR X r' :=
  fun a b pins s σ H x y v u Q I rx ry q => h a b pins s σ H x y v u Q I rx ry (i x y H Q q)
theorem slwk {r r' : V → Option Int → Option Int → Hp → VK → Prop} (h : SlR X r) (i : ∀ x a b H Q, r' x a b H Q → r x a b H Q) : SlR X r' :=
  fun pins s σ H x v vl vu lo hi sl Q I rx hs pl pu q => h pins s σ H x v vl vu lo hi sl Q I rx hs pl pu (i x lo hi H Q q)

/-! ### a name in its slot -/
def tV (i : Nat) : TE := fun σ H Q => match σ[i]? with | some (some v) => Q v H | _ => False
theorem v_ (i : Nat) {x : Str} {pos : Pos} (hN : X.N[i]? = some x := by rfl) (hv : Vis X.env.scope x := by first | exact Or.inl rfl | exact Or.inr (Or.inl rfl) | exact Or.inr (Or.inr rfl)) (hd : (x == ("__debug__" : Str)) = false := by decide)
    (hcd : (x == ("__classdict__" : Str)) = false := by decide) : PE X (.Name x pos) (tV i) :=
  wk (pv i hN hv hd hcd) fun σ H Q q => by
    unfold tV at q
    split at q
    · rename_i v e; exact ⟨v, e, q⟩
    · exact q.elim

/-! ### operators -/
def addM (K : PySem.W.Frag) : R2 := fun x y H Q => match x, y with
  | .int i, .int j => Q (.int (i + j)) H
  | .str i, .str j => i.length + j.length ≤ sizeLine ∧ Q (.str (i ++ j)) H
  | .ref a, .ref b => (∃ xs zs, H a = some (.lst xs) ∧ H b = some (.lst zs) ∧ xs.length + zs.length ≤ sizeLine ∧ ∀ p, H p = none → Q (.ref p) (upd H p (.lst (xs ++ zs)))) ∨ rCatT K (.ref a) (.ref b) H Q
  | _, _ => False
theorem op_addM : OpR X (binaryOp .Add) (addM X.K) := opwk (OpR.or op_add (OpR.or op_add_str (OpR.or op_cat op_catT))) fun x y H Q q => by
  unfold addM at q
  split at q
  · exact .inl ⟨_, _, rfl, rfl, q⟩
  · exact .inr (.inl ⟨_, _, rfl, rfl, q⟩)
  · rcases q with ⟨xs, zs, h1, h2, h3, h4⟩ | q
    · exact .inr (.inr (.inl ⟨_, _, xs, zs, rfl, rfl, h1, h2, h3, h4⟩))
    · exact .inr (.inr (.inr q))
  · exact q.elim
def subM : R2 := fun x y H Q => match x, y with
  | .int i, .int j => Q (.int (i - j)) H
  | _, _ => False
theorem op_subM : OpR X (binaryOp .Sub) subM := opwk op_sub fun x y H Q q => by
  unfold subM at q
  split at q
  · exact ⟨_, _, rfl, rfl, q⟩
  · exact q.elim
def mulM : R2 := fun x y H Q => match x, y with
  | .int i, .int j => (CMul i j ∨ CMulW i j) ∧ Q (.int (i * j)) H
  | .ref l, .int k => ∃ xs, H l = some (.lst xs) ∧ (-(2 ^ 63) ≤ k ∧ k < 2 ^ 63) ∧ xs.length * k.toNat ≤ sizeLine ∧ ∀ p, H p = none → Q (.ref p) (upd H p (.lst (List.replicate k.toNat xs).flatten))
  | _, _ => False
theorem op_mulM : OpR X (binaryOp .Mult) mulM := opwk (OpR.or op_mul (OpR.or op_mulW op_rep)) fun x y H Q q => by
  unfold mulM at q
  split at q
  · obtain ⟨h | h, q⟩ := q
    · exact .inl ⟨_, _, rfl, rfl, h, q⟩
    · exact .inr (.inl ⟨_, _, rfl, rfl, h, q⟩)
  · obtain ⟨xs, h1, h2, h3, h4⟩ := q
    exact .inr (.inr ⟨_, _, xs, rfl, rfl, h1, h2.1, h2.2, h3, h4⟩)
  · exact q.elim
def divM : R2 := fun x y H Q => match x, y with
  | .int i, .int j => (CDiv i j ∨ CDivW i j) ∧ Q (.int (i / j)) H
  | _, _ => False
theorem op_divM : OpR X (binaryOp .FloorDiv) divM := opwk (OpR.or op_fdiv op_fdivW) fun x y H Q q => by
  unfold divM at q
  split at q
  · obtain ⟨h | h, q⟩ := q
    · exact .inl ⟨_, _, rfl, rfl, h, q⟩
    · exact .inr ⟨_, _, rfl, rfl, h, q⟩
  · exact q.elim
def modM : R2 := fun x y H Q => match x, y with
  | .int i, .int j => 0 < j ∧ Q (.int (i % j)) H
  | _, _ => False
theorem op_modM : OpR X (binaryOp .Mod) modM := opwk op_mod fun x y H Q q => by
  unfold modM at q
  split at q
  · exact ⟨_, _, rfl, rfl, q.1, q.2⟩
  · exact q.elim
def powM : R2 := fun x y H Q => match x, y with
  | .int i, .int j => CPow i j ∧ Q (.int (i ^ j.toNat)) H
  | _, _ => False
theorem op_powM : OpR X (binaryOp .Pow) powM := opwk op_pow fun x y H Q q => by
  unfold powM at q
  split at q
  · exact ⟨_, _, rfl, rfl, q.1, q.2⟩
  · exact q.elim
def negM : V → Hp → VK → Prop := fun x H Q => match x with
  | .int i => Q (.int (-i)) H
  | _ => False
theorem un_negM : UnR X (unaryOp .USub) negM := unwk un_neg fun x H Q q => by
  unfold negM at q
  split at q
  · exact ⟨_, rfl, q⟩
  · exact q.elim

/-! ### comparisons -/
def cmpM (f : Int → Int → Bool) : R2 := fun x y H Q => match x, y with
  | .int i, .int j => Q (.bl (f i j)) H
  | _, _ => False
theorem cmpwk {f : Int → Int → Bool} {g : Value → Value → Sem Value} (h : OpR X g (rI0 fun i j => .bl (f i j))) : OpR X g (cmpM f) := opwk h fun x y H Q q => by
  unfold cmpM at q
  split at q
  · exact ⟨_, _, rfl, rfl, q⟩
  · exact q.elim
theorem op_ltM : OpR X (compareOp .Lt) (cmpM fun i j => decide (i < j)) := cmpwk op_lt
theorem op_leM : OpR X (compareOp .LtE) (cmpM fun i j => decide (i ≤ j)) := cmpwk op_le
theorem op_gtM : OpR X (compareOp .Gt) (cmpM fun i j => decide (j < i)) := cmpwk op_gt
theorem op_geM : OpR X (compareOp .GtE) (cmpM fun i j => decide (j ≤ i)) := cmpwk op_ge
/-- ==: of plain values by the values; else of data -/
def eqM (K : PySem.W.Frag) : R2 := fun x y H Q => match x, y with
  | .int i, .int j => Q (.bl (decide (i = j))) H
  | .str i, .str j => Q (.bl (decide (i = j))) H
  | .bl i, .bl j => Q (.bl (decide (i = j))) H
  | .non, .non => Q (.bl true) H
  | .non, .int _ => Q (.bl false) H
  | .int _, .non => Q (.bl false) H
  | .non, .str _ => Q (.bl false) H
  | .str _, .non => Q (.bl false) H
  | .non, .bl _ => Q (.bl false) H
  | .bl _, .non => Q (.bl false) H
  | .int _, .str _ => Q (.bl false) H
  | .str _, .int _ => Q (.bl false) H
  | .bl _, .str _ => Q (.bl false) H
  | .str _, .bl _ => Q (.bl false) H
  | x, y => rEqD K x y H Q
theorem op_eqM (hu : X.A.units + 64 < cLine) : OpR X (compareOp .Eq) (eqM X.K) := opwk (OpR.or op_eq (op_eqD hu)) fun x y H Q q => by
  unfold eqM at q
  split at q
  all_goals first
    | exact .inl ⟨rfl, by simpa using q⟩
    | exact .inr q
def neM (K : PySem.W.Frag) : R2 := fun x y H Q => match x, y with
  | .int i, .int j => Q (.bl (!decide (i = j))) H
  | .str i, .str j => Q (.bl (!decide (i = j))) H
  | .bl i, .bl j => Q (.bl (!decide (i = j))) H
  | .non, .non => Q (.bl false) H
  | .non, .int _ => Q (.bl true) H
  | .int _, .non => Q (.bl true) H
  | .non, .str _ => Q (.bl true) H
  | .str _, .non => Q (.bl true) H
  | .non, .bl _ => Q (.bl true) H
  | .bl _, .non => Q (.bl true) H
  | .int _, .str _ => Q (.bl true) H
  | .str _, .int _ => Q (.bl true) H
  | .bl _, .str _ => Q (.bl true) H
  | .str _, .bl _ => Q (.bl true) H
  | x, y => rNeD K x y H Q
theorem op_neM (hu : X.A.units + 64 < cLine) : OpR X (compareOp .NotEq) (neM X.K) := opwk (OpR.or op_ne (op_neD hu)) fun x y H Q q => by
  unfold neM at q
  split at q
  all_goals first
    | exact .inl ⟨rfl, by simpa using q⟩
    | exact .inr q
/-- is, is not: None, True, False -/
def isV (x y : V) : Bool := match x, y with
  | .non, .non => true
  | .bl a, .bl b => a == b
  | _, _ => false
def litV (y : V) : Bool := match y with | .non => true | .bl _ => true | _ => false
def isM : R2 := fun x y H Q => match litV y with | true => Q (.bl (isV x y)) H | false => False
def notM : R2 := fun x y H Q => match litV y with | true => Q (.bl (!isV x y)) H | false => False
theorem lit_cases {y : V} (h : litV y = true) : y = .non ∨ ∃ b, y = .bl b := by
  cases y with
  | non => exact .inl rfl
  | bl b => exact .inr ⟨b, rfl⟩
  | _ => exact absurd (show false = true from h) (by decide)
theorem is_other {A : Around} {E : Value → Shared → Prop} {M : Model} {x : V} {v : Value} {b : Bool} {s : Shared} {Q : Value → Shared → Prop} (rx : RelV x v) (h : Q (.bool (isV x (.bl b))) s) : wpAny M A (compareOp .Is v (.bool b)) Q E s := by
  cases x with
  | bl a =>
    cases rx
    by_cases e : a = b
    · subst e; exact wpAny_is_self rfl (by simpa [isV] using h)
    · exact wpAny_is_other rfl (fun z => e (Value.bool.inj z)) (by rw [show isV (.bl a) (.bl b) = false from beq_eq_false_iff_ne.mpr e] at h; exact h)
  | non => cases rx; exact wpAny_is_other rfl (by intro z; cases z) h
  | int i => obtain ⟨t, rfl⟩ := rx; exact wpAny_is_other rfl (by intro z; cases z) h
  | str i => obtain ⟨t, rfl⟩ := rx; exact wpAny_is_other rfl (by intro z; cases z) h
  | byt i => obtain ⟨t, rfl⟩ := rx; exact wpAny_is_other rfl (by intro z; cases z) h
  | flt i => obtain ⟨t, rfl⟩ := rx; exact wpAny_is_other rfl (by intro z; cases z) h
  | ref a => cases rx; exact wpAny_is_other rfl (by intro z; cases z) h
  | ty n => cases rx; exact wpAny_is_other rfl (by intro z; cases z) h
theorem isnot_other {A : Around} {E : Value → Shared → Prop} {M : Model} {x : V} {v : Value} {b : Bool} {s : Shared} {Q : Value → Shared → Prop} (rx : RelV x v) (h : Q (.bool (!isV x (.bl b))) s) : wpAny M A (compareOp .IsNot v (.bool b)) Q E s := by
  cases x with
  | bl a =>
    cases rx
    by_cases e : a = b
    · subst e; exact wpAny_isNot_self rfl (by simpa [isV] using h)
    · exact wpAny_isNot_other rfl (fun z => e (Value.bool.inj z)) (by rw [show isV (.bl a) (.bl b) = false from beq_eq_false_iff_ne.mpr e] at h; exact h)
  | non => cases rx; exact wpAny_isNot_other rfl (by intro z; cases z) h
  | int i => obtain ⟨t, rfl⟩ := rx; exact wpAny_isNot_other rfl (by intro z; cases z) h
  | str i => obtain ⟨t, rfl⟩ := rx; exact wpAny_isNot_other rfl (by intro z; cases z) h
  | byt i => obtain ⟨t, rfl⟩ := rx; exact wpAny_isNot_other rfl (by intro z; cases z) h
  | flt i => obtain ⟨t, rfl⟩ := rx; exact wpAny_isNot_other rfl (by intro z; cases z) h
  | ref a => cases rx; exact wpAny_isNot_other rfl (by intro z; cases z) h
  | ty n => cases rx; exact wpAny_isNot_other rfl (by intro z; cases z) h
theorem isV_non (x : V) : isV x .non = decide (x = .non) := by cases x <;> rfl
theorem op_isM : OpR X (compareOp .Is) isM := by
  intro pins s σ H x y v u Q I rx ry q
  unfold isM at q
  split at q
  · rename_i e
    rcases lit_cases e with rfl | ⟨b, rfl⟩
    · exact op_isN pins s σ H x .non v u Q I rx ry ⟨rfl, by rw [← isV_non]; exact q⟩
    · cases ry
      exact is_other rx ⟨.bl _, H, I, rfl, q⟩
  · exact q.elim
theorem op_isNotM : OpR X (compareOp .IsNot) notM := by
  intro pins s σ H x y v u Q I rx ry q
  unfold notM at q
  split at q
  · rename_i e
    rcases lit_cases e with rfl | ⟨b, rfl⟩
    · exact op_notN pins s σ H x .non v u Q I rx ry ⟨rfl, by rw [← isV_non]; exact q⟩
    · cases ry
      exact isnot_other rx ⟨.bl _, H, I, rfl, q⟩
  · exact q.elim
/-- in: a list or a tuple of plain things; a sign in a text -/
def inM (K : PySem.W.Frag) (neg : Bool) : R2 := fun x y H Q => match y with
  | .str z => ∃ c : Nat, x = .str ⟨#[c]⟩ ∧ Q (.bl (if neg then !decide (c ∈ z.cps.toList) else decide (c ∈ z.cps.toList))) H
  | .ref p => ∃ xs, (SqL K H p xs ∨ SqT K H p xs) ∧ flatV x = true ∧ xs.all flatV = true ∧ Q (.bl (if neg then !inV x xs else inV x xs)) H
  | _ => False
theorem op_inM : OpR X (compareOp .In) (inM X.K false) := opwk (OpR.or op_in_sign op_in_seq) fun x y H Q q => by
  unfold inM at q
  split at q
  · obtain ⟨c, e, q⟩ := q
    exact .inl ⟨c, _, e, rfl, q⟩
  · obtain ⟨xs, h1, h2, h3, q⟩ := q
    exact .inr ⟨_, xs, rfl, h1, h2, h3, q⟩
  · exact q.elim
theorem op_notInM : OpR X (compareOp .NotIn) (inM X.K true) := opwk (OpR.or op_notIn_sign op_notIn_seq) fun x y H Q q => by
  unfold inM at q
  split at q
  · obtain ⟨c, e, q⟩ := q
    exact .inl ⟨c, _, e, rfl, q⟩
  · obtain ⟨xs, h1, h2, h3, q⟩ := q
    exact .inr ⟨_, xs, rfl, h1, h2, h3, q⟩
  · exact q.elim

/-! ### tests -/
variable {a b : Expr} {rest : List Expr} {ta tb : TE} {pos : Pos}
def tTs (t : TE) : TT := fun σ H Q => t σ H fun x H' => match x with | .bl k => Q k H' | _ => False
theorem pt_c {op : CmpOp} {r : R2} (ho : OpR X (compareOp op) r) (ha : PE X a ta) (hb : PE X b tb) (hm : behindInMarks op b = false := by first | exact nomark _ | rfl) : PT X (.Compare a [op] [b] pos) (tTs (tOp r ta tb)) := by
  refine ⟨fun pins s σ H Q I h => ?_⟩
  refine wpAny_isTrue_Compare1 (thn (ha.run pins s σ H _ I h) fun v s1 ⟨x, H1, I1, r1, q1⟩ => thn (hb.run pins s1 σ H1 _ I1 q1) fun u s2 ⟨y, H2, I2, r2, q2⟩ =>
    thn (ho pins s2 σ H2 x y v u _ I2 r1 r2 q2) fun c s3 ⟨z, H3, I3, r3, q3⟩ => ?_) hm
  cases z with
  | bl k => cases r3; exact wpAny_truthy_bool ⟨H3, I3, q3⟩
  | _ => exact (show False from q3).elim
theorem pe_c {op : CmpOp} {r : R2} (ho : OpR X (compareOp op) r) (ha : PE X a ta) (hb : PE X b tb) (hm : behindInMarks op b = false := by first | exact nomark _ | rfl) : PE X (.Compare a [op] [b] pos) (tOp r ta tb) := pe_cmpR ho ha hb hm
/-- any value's truth -/
def tTr (K : PySem.W.Frag) (t : TE) : TT := fun σ H Q => t σ H fun x H' => match x with
  | .bl k => Q k H'
  | .non => Q false H'
  | .int i => Q (i != 0) H'
  | .str y => y.length ≤ sizeLine ∧ Q ((y.length : Int) != 0) H'
  | .ref p => (∃ xs, SqL K H' p xs ∧ Q (!xs.isEmpty) H') ∨ (∃ xs, SqT K H' p xs ∧ Q (!xs.isEmpty) H') ∨ ∃ kvs, H' p = some (.dK kvs) ∧ Q (!kvs.isEmpty) H'
  | _ => False
theorem pt_tr (ha : PE X a ta) (he : ∀ whole, isTrue a X.env whole = (do let v ← whole; standAt a.pos; holding [v] (truthy v)) := by intro _; rfl) : PT X a (tTr X.K ta) := by
  refine ⟨fun pins s σ H Q I h => ?_⟩
  refine isTrue_plain (thn (ha.run pins s σ H _ I h) fun v s1 ⟨x, H1, I1, r1, q1⟩ => tru_ok pins s1 σ H1 x v Q I1 r1 ?_) (he _)
  cases x with
  | bl k => exact ⟨k, rfl, q1⟩
  | non => exact ⟨false, rfl, q1⟩
  | int i => exact ⟨_, rfl, q1⟩
  | str y => exact ⟨_, ⟨q1.1, rfl⟩, q1.2⟩
  | ref p =>
    rcases (show (∃ xs, SqL X.K H1 p xs ∧ Q (!xs.isEmpty) H1) ∨ (∃ xs, SqT X.K H1 p xs ∧ Q (!xs.isEmpty) H1) ∨ ∃ kvs, H1 p = some (.dK kvs) ∧ Q (!kvs.isEmpty) H1 from q1) with ⟨xs, h, q⟩ | ⟨xs, h, q⟩ | ⟨xs, h, q⟩
    · exact ⟨_, .inl ⟨xs, h, rfl⟩, q⟩
    · exact ⟨_, .inr (.inl ⟨xs, h, rfl⟩), q⟩
    · exact ⟨_, .inr (.inr ⟨xs, h, rfl⟩), q⟩
  | _ => exact (show False from q1).elim
def tAndM (ta tb : TE) : TE := fun σ H Q => ta σ H fun x H1 => match x with | .bl c => (if c = true then tb σ H1 Q else Q (.bl false) H1) | _ => False
def tOrM (ta tb : TE) : TE := fun σ H Q => ta σ H fun x H1 => match x with | .bl c => (if c = true then Q (.bl true) H1 else tb σ H1 Q) | _ => False
def tNotM (ta : TE) : TE := fun σ H Q => ta σ H fun x H1 => match x with | .bl c => Q (.bl (!c)) H1 | _ => False
theorem pe_andM (ha : PE X a ta) (hb : PE X (.BoolOp .And (b :: rest) pos) tb) : PE X (.BoolOp .And (a :: b :: rest) pos) (tAndM ta tb) := by
  refine ⟨fun pins s σ H Q I h => ?_⟩
  refine BoolOp_and (thn (ha.run pins s σ H _ I h) fun v s1 ⟨x, H1, I1, r1, q1⟩ => ?_)
  cases x with
  | bl c =>
    cases r1
    refine wpAny_truthy_bool ?_
    cases c with
    | true => exact hb.run pins s1 σ H1 Q I1 q1
    | false => exact ⟨.bl false, H1, I1, rfl, q1⟩
  | _ => exact (show False from q1).elim
theorem pe_orM (ha : PE X a ta) (hb : PE X (.BoolOp .Or (b :: rest) pos) tb) : PE X (.BoolOp .Or (a :: b :: rest) pos) (tOrM ta tb) := by
  refine ⟨fun pins s σ H Q I h => ?_⟩
  refine BoolOp_or (thn (ha.run pins s σ H _ I h) fun v s1 ⟨x, H1, I1, r1, q1⟩ => ?_)
  cases x with
  | bl c =>
    cases r1
    refine wpAny_truthy_bool ?_
    cases c with
    | false => exact hb.run pins s1 σ H1 Q I1 q1
    | true => exact ⟨.bl true, H1, I1, rfl, q1⟩
  | _ => exact (show False from q1).elim
theorem pe_notM (ha : PE X a ta) : PE X (.UnaryOp .Not a pos) (tNotM ta) := by
  refine ⟨fun pins s σ H Q I h => ?_⟩
  refine UnaryOp_ (thn (ha.run pins s σ H _ I h) fun v s1 ⟨x, H1, I1, r1, q1⟩ => ?_)
  cases x with
  | bl c => cases r1; exact not_of (wpAny_truthy_bool ⟨.bl (!c), H1, I1, rfl, q1⟩)
  | _ => exact (show False from q1).elim

/-! ### subscripts, slices, calls of built-ins -/
def ixM (K : PySem.W.Frag) : R2 := fun x y H Q => match x, y with
  | .str z, .int i => z.length ≤ sizeLine ∧ ∃ c, atI z.cps.toList i = some c ∧ Q (.str ⟨#[c]⟩) H
  | .ref p, .int i => ∃ xs, (SqL K H p xs ∨ SqT K H p xs) ∧ ∃ v, atI xs i = some v ∧ Q v H
  | _, _ => False
theorem ix_M : IxR X (ixM X.K) := ixwk ix_seq fun x y H Q q => by
  unfold ixM at q
  split at q
  · obtain ⟨h, c, e, q⟩ := q
    exact .inr (.inr ⟨_, _, c, rfl, rfl, h, e, q⟩)
  · obtain ⟨xs, h | h, v, e, q⟩ := q
    · exact .inl ⟨_, xs, _, v, rfl, rfl, h, e, q⟩
    · exact .inr (.inl ⟨_, xs, _, v, rfl, rfl, h, e, q⟩)
  · exact q.elim
theorem e_ix (ha : PE X a ta) (hb : PE X b tb) (hs : PlainIx b := by intro _ _; rfl) : PE X (.Subscript a b pos) (tOp (ixM X.K) ta tb) := pe_ix ix_M ha hb hs
def slM (K : PySem.W.Frag) : V → Option Int → Option Int → Hp → VK → Prop := fun x lo hi H Q => match x with
  | .str z => z.length ≤ sizeLine ∧ Q (.str (cutS z lo hi)) H
  | .ref p => (∃ xs, SqL K H p xs ∧ ∀ q, H q = none → Q (.ref q) (upd H q (.lst (cutV xs lo hi)))) ∨ rSlT K (.ref p) lo hi H Q
  | _ => False
theorem sl_M : SlR X (slM X.K) := slwk (SlR.or sl_str (SlR.or sl_list sl_tup)) fun x lo hi H Q q => by
  unfold slM at q
  split at q
  · exact .inl ⟨_, rfl, q.1, q.2⟩
  · rcases q with ⟨xs, h, q⟩ | q
    · exact .inr (.inl ⟨_, xs, rfl, h, q⟩)
    · exact .inr (.inr q)
  · exact q.elim
def intM : List V → Hp → VK → Prop := fun xs H Q => match xs with
  | [.int i] => Q (.int i) H
  | [.bl k] => Q (.int (if k then 1 else 0)) H
  | [.str a] => ∃ n, PySem.intText? a = some n ∧ a.length ≤ 640 ∧ Q (.int n) H
  | _ => False
theorem call_intM : CallR X (.type "int") intM := cwk (CallR.or call_int1 call_int_str) fun xs H Q q => by
  unfold intM at q
  split at q
  · exact .inl (.inl ⟨_, rfl, q⟩)
  · exact .inl (.inr ⟨_, rfl, q⟩)
  · obtain ⟨n, h1, h2, q⟩ := q
    exact .inr ⟨_, n, rfl, h1, h2, q⟩
  · exact q.elim
def lenM (K : PySem.W.Frag) : List V → Hp → VK → Prop := fun xs H Q => match xs with
  | [.str z] => z.length ≤ sizeLine ∧ Q (.int z.length) H
  | [.ref p] => (∃ xs, (SqL K H p xs ∨ SqT K H p xs) ∧ Q (.int xs.length) H) ∨ ∃ kvs, H p = some (.dK kvs) ∧ Q (.int kvs.length) H
  | _ => False
theorem call_lenM : CallR X (.builtin "len") (lenM X.K) := cwk (CallR.or call_len_str (CallR.or call_len_seq call_lenD)) fun xs H Q q => by
  unfold lenM at q
  split at q
  · exact .inl ⟨_, rfl, q.1, q.2⟩
  · rcases q with ⟨xs, h, q⟩ | ⟨kvs, h, q⟩
    · exact .inr (.inl ⟨_, xs, rfl, h, q⟩)
    · exact .inr (.inr ⟨_, kvs, rfl, h, q⟩)
  · exact q.elim

/-! ### the same, the written part named -/
theorem addK (K : PySem.W.Frag) (h : X.K = K := by rfl) : OpR X (binaryOp .Add) (addM K) := h ▸ op_addM
theorem eqK (K : PySem.W.Frag) (hu : X.A.units + 64 < cLine) (h : X.K = K := by rfl) : OpR X (compareOp .Eq) (eqM K) := h ▸ op_eqM hu
theorem neK (K : PySem.W.Frag) (hu : X.A.units + 64 < cLine) (h : X.K = K := by rfl) : OpR X (compareOp .NotEq) (neM K) := h ▸ op_neM hu
theorem inK (K : PySem.W.Frag) (h : X.K = K := by rfl) : OpR X (compareOp .In) (inM K false) := h ▸ op_inM
theorem notInK (K : PySem.W.Frag) (h : X.K = K := by rfl) : OpR X (compareOp .NotIn) (inM K true) := h ▸ op_notInM
theorem pt_t (K : PySem.W.Frag) (ha : PE X a ta) (he : ∀ whole, isTrue a X.env whole = (do let v ← whole; standAt a.pos; holding [v] (truthy v)) := by intro _; rfl) (h : X.K = K := by rfl) : PT X a (tTr K ta) := h ▸ pt_tr ha he
theorem e_x (K : PySem.W.Frag) (ha : PE X a ta) (hb : PE X b tb) (hs : PlainIx b := by intro _ _; rfl) (h : X.K = K := by rfl) : PE X (.Subscript a b pos) (tOp (ixM K) ta tb) := h ▸ e_ix ha hb hs
theorem slK (K : PySem.W.Frag) (h : X.K = K := by rfl) : SlR X (slM K) := h ▸ sl_M
theorem lenK (K : PySem.W.Frag) (h : X.K = K := by rfl) : CallR X (.builtin "len") (lenM K) := h ▸ call_lenM
theorem listK (K : PySem.W.Frag) (h : X.K = K := by rfl) : CallR X (.type "list") (fun xs H Q => ∃ p ys, xs = [.ref p] ∧ (SqL K H p ys ∨ SqT K H p ys) ∧ ∀ l, H l = none → Q (.ref l) (upd H l (.lst ys))) := h ▸ call_list_of
theorem tupleK (K : PySem.W.Frag) (h : X.K = K := by rfl) : CallR X (.type "tuple") (fun xs H Q => ∃ p ys, xs = [.ref p] ∧ ((SqL K H p ys ∧ ∀ l, H l = none → Q (.ref l) (upd H l (.tup ys))) ∨ (SqT K H p ys ∧ Q (.ref p) H))) := h ▸ call_tuple_of
theorem isiK (K : PySem.W.Frag) (h : X.K = K := by rfl) : CallR X (.builtin "isinstance") (rIsi K) := h ▸ call_isi
theorem allK (K : PySem.W.Frag) (hc : X.calm = true) (h : X.K = K := by rfl) : CallR X (.builtin "all") (rAll K) := h ▸ cr_all hc
theorem anyK (K : PySem.W.Frag) (hc : X.calm = true) (h : X.K = K := by rfl) : CallR X (.builtin "any") (rAny K) := h ▸ cr_any hc
theorem sortedK (K : PySem.W.Frag) (h : X.K = K := by rfl) : CallR X (.builtin "sorted") (rSorted K) := h ▸ cr_sorted
theorem sumK (K : PySem.W.Frag) (hc : X.calm = true) (h : X.K = K := by rfl) : CallR X (.builtin "sum") (rSum K) := h ▸ cr_sum hc

/-! ### calls of own defs -/
structure Cal (P : Program) (w : World) (K : PySem.W.Frag) (mg : Str → Option Value) (base : Heap) (CX : CXT) (k : Nat) (x : Str) (f : Addr) (fd : FuncData) (ps : List Str) (sp : Sp) : Prop where
  G : FnOk P w K mg base CX k f fd ps sp
  b : Binds K fd ps []
  kp : PySem.W.keepIn K (.ref f) = true
  m : mg x = some (.ref f)
end
end El

set_option Elab.async false
set_option linter.all false
set_option maxRecDepth 100000
set_option maxHeartbeats 4000000
/-! Own words: an own exception's first row super().__init__(e), the rest of its __init__ by the layer. -/
namespace El
open PySem PySem.Spec PyProof.Rows L2 NdefX
abbrev supRow (p0 p1 p2 p3 p4 : Pos) (e1 : Expr) : Stmt := .Expr (.Call (.Attribute (.Call (.Name "super" p0) [] [] p1) "__init__" p2) [e1] [] p3) p4
abbrev supNF (name qual : Str) (params : Arguments) (body : List Stmt) (scope : Scope) (cc cda : Addr) : NF := ⟨name, qual, params, body, scope, [("__class__", cc)], cda⟩

theorem inv_unpin {X : Cx} {pins : List (Addr × Obj)} {σ : L2.St} {H : Hp} {s : Shared} (I : Inv X pins σ H s) : Inv X [] σ H s := I.pins_of fun p hp => absurd hp (by simp)

theorem fn_super {P : Program} {w : World} {K : PySem.W.Frag} {mg : Str → Option Value} {base : Heap} {CX : CXT} {k : Nat} {f cc cda D : Addr} {name qual : Str} {params : Arguments} {scope : Scope} {doc pm ct oc ccl cl : Value} {od cdd cld : Option Addr} {osl ccs csl : Array (Option Value)} {vs0 : Array Value} {file : Str} {tf : Tok} {cdD : ClassData}
    {N ps : List Str} {sp : Sp} {e1 : Expr} {rest : List Stmt} {p0 p1 p2 p3 p4 : Pos} {ar : Arg}
    (lk : K.lookup f = some ⟨oc, od, .func (PySem.W.fnX name qual params (supRow p0 p1 p2 p3 p4 e1 :: rest) scope [("__class__", cc)] .none .none doc pm none (.ref cda) ct), osl⟩)
    (hcd : PySem.W.codeIn K (.ref cda) qual = true) (S : NScope N ps ["__class__"] scope)
    (hcode : K.lookup cda = some ⟨ccl, cdd, .fields vs0, ccs⟩) (hvs : vs0[2]? = some (.str file tf)) (hfile : ((P.main.file : Str) == file) = true)
    (hcell : K.lookup cc = some ⟨cl, cld, .cell (some (.ref D)), csl⟩) (hD : PySem.W.clsIn K D = some cdD) (hsuper : mg "super" = none)
    (hop : PySem.W.nsIn K PySem.cStatics "thirdparty.any" = some none)
    (hp : (params.posonlyargs ++ params.args).head? = some ar) (hps : ps[0]? = some ar.arg)
    (hks : scope.names.lookup ("super" : Str) = some .globalImplicit) (htop : (P.main.scope.names.lookup ("super" : Str)).isSome = false)
    (hboot : bootBuiltins "super" = some (.type "super"))
    (len : ∀ vs H Q E, sp vs H Q E → vs.length = ps.length)
    (hbody : ∀ (A : Around) (outer : List Env) (s : Shared) (H : Hp) (vs : List V) (Q : VK) (E : XK), Room k (A.deeper (envF (supNF name qual params (supRow p0 p1 p2 p3 p4 e1 :: rest) scope cc cda) f s.heap.objs.size)) → sp vs H Q E →
      ∃ (a C : Addr) (ta : TA) (t : TS), vs[0]? = some (.ref a) ∧ H a = some (exo a C none) ∧ OexC K C ∧ PySem.W.mroIn K C (.ref D) = some true ∧ PySem.W.ks_superIn K C D "__init__" = some (some (.builtin "ValueError.__init__")) ∧ PySem.W.subIn K (.ref C) (.type "ValueError") = some true ∧
        PA (ncx CX P w K mg base N (supNF name qual params (supRow p0 p1 p2 p3 p4 e1 :: rest) scope cc cda) f A outer s H E) [e1] ta ∧
        PSs (ncx CX P w K mg base N (supNF name qual params (supRow p0 p1 p2 p3 p4 e1 :: rest) scope cc cda) f A outer s H E) rest t ∧
        ta (startF N vs [none]) H fun ws H1 => H1 a = some (exo a C none) ∧ ws.length ≤ 1000 ∧ t { nx := fun _ H' => Q .non H', rt := Q } (startF N vs [none]) H1)
    (hst : ∀ env : Env, starEach [e1] env = (false, eval e1 env) :: starEach [] env) {pl : Env → Sem Bool}
    (he : ∀ env : Env, eval (.Call (.Attribute (.Call (.Name "super" p0) [] [] p1) "__init__" p2) [e1] [] p3) env = (do
      let ov ← attributeBase (.Call (.Name "super" p0) [] [] p1) "__init__" env (eval (.Call (.Name "super" p0) [] [] p1) env)
      standAt p2.atName
      let (f, first) ← holding [ov] (getMethod ov "__init__" (pl env))
      callWith p3 f first (backTo p3 (starEach [e1] env)) []))
    (hsw : ∀ env : Env, swapsWith (.Call (.Attribute (.Call (.Name "super" p0) [] [] p1) "__init__" p2) [e1] [] p3) none p4.line env = pure false) :
    FnOk P w K mg base CX (k + 1) f (PySem.W.fnX name qual params (supRow p0 p1 p2 p3 p4 e1 :: rest) scope [("__class__", cc)] .none .none doc pm none (.ref cda) ct) ps sp := by
  refine ⟨len, fun A outer s H args us vs Q E hr e0 hb r hsp => ?_⟩
  have hl := len _ _ _ _ hsp
  have KX : K.In s.heap := e0.mod.kin.keeps fun b o e => (e0.bs b o e).1
  have lim : s.heap.NoLimit := e0.mod.nolimit.keeps fun b o e => (e0.bs b o e).1
  have hkc : scope.names.lookup ("__class__" : Str) = some .free := S.frk _ (List.mem_singleton.mpr rfl)
  refine PySem.ks_codeAny_call_defAt (fd := PySem.W.fnX name qual params (supRow p0 p1 p2 p3 p4 e1 :: rest) scope [("__class__", cc)] .none .none doc pm none (.ref cda) ct) (body := supRow p0 p1 p2 p3 p4 e1 :: rest) (binds := ps.zip us) hr.depth (KX _ _ lk) rfl lim
    (PySem.W.codeRec_of KX hcd) rfl hb S.nocell (fun ⟨n, _⟩ hy => S.par n (List.of_mem_zip hy).1) (fun h₁ hns kp => ?_) S.co S.gen S.kind
  obtain ⟨a, C, ta, t, hv0, hexo, TC, hmro, hsup, hsubV, hPA, hPS, hq⟩ := hbody A outer s H vs Q E (hr.deeper _) hsp
  have bcc : base.get? cc = some ⟨cl, cld, .cell (some (.ref D)), csl⟩ := e0.mod.kin _ _ hcell
  have CC : CellsAt [(("__class__" : Str), cc)] ["__class__"] [none] s.heap H := by
    refine ⟨rfl, fun y c e => ?_, fun x y c e1 e2 => ?_, fun i y hi => ?_⟩
    · have : c = cc := by
        simp only [List.lookup] at e
        split at e
        · exact (Option.some.inj e).symm
        · cases e
      subst this
      exact ⟨(e0.bs _ _ bcc).2, _, _, KX _ _ hcell, rfl⟩
    · simp only [List.lookup] at e1 e2
      split at e1
      · rename_i h1
        split at e2
        · rename_i h2
          rw [beq_iff_eq] at h1 h2
          rw [h1, h2]
        · cases e2
      · cases e1
    · have : i = 0 ∧ y = "__class__" := by
        cases i with
        | zero => simp at hi; exact ⟨rfl, hi.symm⟩
        | succ i => simp at hi
      obtain ⟨rfl, rfl⟩ := this
      exact ⟨cc, by simp [List.lookup], fun v hv => by simp at hv⟩
  have I : Inv (ncx CX P w K mg base N (supNF name qual params (supRow p0 p1 p2 p3 p4 e1 :: rest) scope cc cda) f A outer s H E) [] (startF N vs [none]) H { s with heap := h₁, toks := s.toks + (ps.zip us).length } :=
    inv_startN (F := supNF name qual params (supRow p0 p1 p2 p3 p4 e1 :: rest) scope cc cda) S hr.hd e0 hl r CC hns kp
  have KX1 : K.In h₁ := fun b o e => kp b o (KX b o e)
  obtain ⟨oD, hD1, hD2⟩ : ∃ oD, h₁.get? D = some oD ∧ oD.data = .cls cdD := by
    unfold PySem.W.clsIn at hD
    split at hD
    · rename_i c d cd' sl ho
      cases hD
      exact ⟨_, KX1 _ _ ho, rfl⟩
    · cases hD
  have ndP : ps.Nodup := by
    have q := S.nd.sublist (List.take_sublist (ps.length + 1) N)
    rw [show N.take (ps.length + 1) = ps ++ [("__class__" : Str)] from S.pre] at q
    exact (List.nodup_append.mp q).1
  obtain ⟨u0, hu0, ru0⟩ := r.get hv0
  obtain rfl : u0 = Value.ref a := ru0
  obtain ⟨t1, hga⟩ := exo_at I.hok hexo
  have hint : interactive (envF (supNF name qual params (supRow p0 p1 p2 p3 p4 e1 :: rest) scope cc cda) f s.heap.objs.size) = false := by
    have hk := S.kind
    unfold interactive
    simp [Env.blockKind, hk]
  refine PySem.ks_wpAt_execs_cons (PySem.ks_wpAt_Expr_any (PySem.ks_wpAt_MethodCall (PySem.ks_wpAt_super_base (ar := ar) hks hkc (by decide +kernel) rfl (KX1 _ _ lk) rfl hp rfl (KX1 _ _ hcode) rfl hvs hfile htop ?_) (he _)) hint (hsw _))
  obtain ⟨mb, hb1, hb2⟩ := e0.mod.blt
  have kb : ∀ b o, base.get? b = some o → h₁.get? b = some o := fun b o e => kp b o (e0.bs b o e).1
  refine PySem.W.ks_loadName_global S.kind hks (Calls.loadGlobal_builtin (e0.mod.glob.keeps kb) hsuper (hb1.keeps kb) ((hb2 _ (by decide)).trans hboot) ⟨rfl, ?_⟩)
  refine wpAny_loadName_free S.kind hkc rfl ⟨_, KX1 _ _ hcell, rfl⟩ ?_
  refine wpAny_loadName_local S.kind (S.par _ (List.mem_of_getElem? hps)) hns (zip_look ndP hps hu0) ?_
  refine PySem.ks_wpAny_isType_cls hD1 hD2 ⟨rfl, ?_⟩
  refine PySem.ks_wpAny_call_super hD1 hD2 hga rfl (fun c e => by cases e) (PySem.W.looks_mroIn KX1 hmro) (fun h2 eso k2 => ?_)
  have I2 : Inv (ncx CX P w K mg base N (supNF name qual params (supRow p0 p1 p2 p3 p4 e1 :: rest) scope cc cda) f A outer s H E) [] (startF N vs [none]) H { s with heap := h2, toks := s.toks + (ps.zip us).length } := I.kept k2
  have KX2 : K.In h2 := fun b o e => k2 b o (KX1 b o e)
  cases hcC : PySem.W.clsIn K C with
  | none => unfold PySem.W.ks_superIn at hsup; rw [hcC] at hsup; cases hsup
  | some cd =>
  unfold PySem.W.ks_superIn at hsup
  rw [hcC] at hsup
  have hga2 := k2 _ _ hga
  have INS : PySem.W.InstAt h2 a { cls := .ref C, dict := none, data := .fields #[.ref t1, .none, .none, .none, .bool false, .none] } C none := ⟨hga2, rfl, rfl, trivial⟩
  have hI : PySem.W.Looks (model P w) h2 (isInstance (.ref a) (.type "ValueError")) true := INS.type.andThen (PySem.W.looks_subIn KX2 hsubV)
  refine PySem.W.kxs_getMethod PySem.W.kxs_ValueError eso (PySem.W.looks_opaque KX2 hop) (l₀ := cd.mro) (fun A Q E s k q => wpAny_bind ((PySem.W.looks_clsIn KX2 hcC) A _ E s k (wpAny_pure q))) rfl KX2 hsup hI (PySem.W.ks_ne KX2 INS hcC) (by decide +kernel) ?_
  have I3 : Inv (ncx CX P w K mg base N (supNF name qual params (supRow p0 p1 p2 p3 p4 e1 :: rest) scope cc cda) f A outer s H E) [] (startF N vs [none]) H { s with heap := h2.push (PySem.W.kxs_mw "ValueError.__init__" a), toks := s.toks + (ps.zip us).length + 1 } := I2.kept fun b o e => Heap.get?_push_of_some _ e
  have hu : (h2.push (PySem.W.kxs_mw "ValueError.__init__" a)).get? h2.objs.size = some (PySem.W.kxs_mw "ValueError.__init__" a) := Heap.get?_push_at rfl rfl
  have hfree : H h2.objs.size = none := I2.hok.fresh (Nat.le_refl _)
  have I4 : Inv (ncx CX P w K mg base N (supNF name qual params (supRow p0 p1 p2 p3 p4 e1 :: rest) scope cc cda) f A outer s H E) [(h2.objs.size, PySem.W.kxs_mw "ValueError.__init__" a)] (startF N vs [none]) H { s with heap := h2.push (PySem.W.kxs_mw "ValueError.__init__" a), toks := s.toks + (ps.zip us).length + 1 } :=
    I3.pins_of fun p hp => by
      obtain rfl := List.mem_singleton.mp hp
      exact ⟨hu, hfree, fun z => absurd I2.lt (by rw [← z]; exact Nat.lt_irrefl _), I2.nofs (Nat.le_refl _), fun v z => by cases z⟩
  show wpAny _ _ (callWith p3 (.ref h2.objs.size) [] (backTo p3 (starEach [e1] _)) []) _ _ _
  rw [hst]
  refine PySem.W.kxs_callWith (i := "ValueError.__init__") (x := a) rfl (Calls.evalArgs_plain ?_)
  have hrun := hPA.run p3 _ _ _ _ _ I4 hq
  rw [hst] at hrun
  refine thn hrun fun us' s4 ⟨ws, H1, I5, r5, hexo1, hws, hq1⟩ => ?_
  have hu5 : s4.heap.get? h2.objs.size = some (PySem.W.kxs_mw "ValueError.__init__" a) := (I5.pin (h2.objs.size, PySem.W.kxs_mw "ValueError.__init__" a) (List.mem_append_right _ (List.mem_singleton.mpr rfl))).1
  refine ⟨hu5, ?_⟩
  obtain ⟨nm, q9, N9, bs, bm, sn, sub, ab, col, dd, k0, k1, k2', k3, k5, hC, hbm⟩ := TC.cls
  obtain ⟨t2, hga5⟩ := exo_at I5.hok hexo1
  have hC5 := I5.kIn _ _ hC
  have hus : us'.length ≤ sizeLine := by
    rw [← Paired.length r5, sizeLine_eq]
    omega
  obtain ⟨h5, g5, d5, tk5, os5⟩ := s4
  show wpAny _ _ (call (.ref h2.objs.size) ([] ++ us')) _ _ _
  rw [List.nil_append]
  refine wpAny_call (codeAny_of_tree ?_)
  show wpAny _ _ (callAny (.ref h2.objs.size) ⟨us', []⟩) _ _ _
  simp only [callAny]
  refine wpAny_bind (wpAny_load hu5 ?_)
  simp only [PySem.W.kxs_mw, show (Value.type "method-wrapper" == Value.type "method" || Value.type "method-wrapper" == Value.type "builtin_function_or_method" || Value.type "method-wrapper" == Value.type "method-wrapper") = true by decide, if_true]
  refine PySem.W.KFB.if_so (by decide) ?_
  refine wpAny_bind (PySem.W.check_bound_init PySem.F.excBase_ValueError.toExcCallFacts hC5 hga5 rfl ?_)
  refine wpAny_bind (wpAny_pure (wpAny_pure ?_))
  refine ⟨plainId_quiet PySem.F.excBase_ValueError.init.plain _, codeAny_builtin PySem.F.excBase_ValueError.initEntry ?_⟩
  refine PySem.W.exc_init_tree (cls := .ref C) (t0 := t2) (dv := none) (c2 := .none) (c3 := .none) (b4 := .bool false) hga5 hus (fun h6 k6 e6 _ => ?_)
  have J := I5.write (t' := tk5) (x := a) (e := a) (o := exo a C none) (by rw [hexo1]; exact True.intro) (.inl rfl) k6 ⟨_, e6⟩ (exo_ok e6)
  have eu : upd H1 a (exo a C none) = H1 := by
    funext b
    by_cases hb : b = a
    · rw [hb, upd_same, hexo1]
    · rw [upd_ne hb]
  rw [eu] at J
  have J0 := inv_unpin J
  refine wpAt_of_wpAny ?_
  refine wpAny_mono (hPS.run [] _ _ H1 _ J0 hq1) (fun fl s' hs => ?_) fun e s' hs => hs
  have fin : ∀ {σ' : L2.St} {H' : Hp} {v : V} {u : Value}, Inv (ncx CX P w K mg base N (supNF name qual params (supRow p0 p1 p2 p3 p4 e1 :: rest) scope cc cda) f A outer s H E) [] σ' H' s' → L2.RelV v u → Q v H' → CE outer P w H s Q u s' :=
    fun {σ' H' v u} J rv q => ⟨v, H', J.os, J.bare, J.base, J.hok, rv, q⟩
  cases fl with
  | ret u =>
    obtain ⟨v, σ', H', J, rv, q⟩ := hs
    exact fin J rv q
  | next =>
    obtain ⟨σ', H', J, q⟩ := hs
    exact fin (v := V.non) (u := Value.none) J rfl q
  | brk =>
    obtain ⟨_, _, _, q⟩ := hs
    exact False.elim q
  | cont =>
    obtain ⟨_, _, _, q⟩ := hs
    exact False.elim q
end El

set_option Elab.async false
set_option linter.all false
set_option maxRecDepth 100000
set_option maxHeartbeats 4000000
/-! Own words: what the written part says of an own exception class, isinstance of what an except clause holds. -/
namespace El
open PySem PySem.Spec PyProof.Rows L2 NdefX
/-- isinstance(e, c), e the exception that the suite holds, with a dict -/
def rIsX (K : PySem.W.Frag) (cls : Value) (d : Option Addr) (a : Addr) : List V → Hp → VK → Prop := fun xs H Q => ∃ (D dd : Addr) (fs : List (Str × V)) (c : V) (cv : Value) (b : Bool), xs = [.ref a, c] ∧ cls = .ref D ∧ d = some dd ∧ H dd = some (.xd fs) ∧ ExcC K D ∧ (∀ u, RelV c u → u = cv) ∧ PySem.W.kitOne K (.ref D) cv = some b ∧ Q (.bl b) H
theorem call_isX {X : Cx} {a : Addr} {oe : Obj} {cls : Value} {d : Option Addr} {pn : List (Addr × Obj)} (hz : Zc cls d oe) (hf : ∃ vs, oe.data = .fields vs) : CallR (X.suite a ((a, oe) :: pn)) (.builtin "isinstance") (rIsX X.K cls d a) := by
  intro pins s σ H xs us Q I r h
  obtain ⟨D, dd, fs, c, cv, b, rfl, rfl, rfl, ea, C, hcv, e, q⟩ := h
  cases r with
  | cons rx rr =>
    cases rr with
    | cons rt rr =>
      cases rr
      cases rx
      have ec := hcv _ rt
      subst ec
      obtain ⟨hget, _⟩ := I.pin (a, oe) (List.mem_append.mpr (.inl List.mem_cons_self))
      obtain ⟨vs, hv⟩ := hf
      have hx : ObjOk X.prog X.w H s.heap dd (.xd fs) := I.hok dd _ ea
      obtain ⟨mA, hns, hr⟩ := hx
      obtain ⟨od, ho, hl⟩ := lookIn_ns hns
      have J : PySem.W.InstAt s.heap a oe D (some od) := ⟨hget, hz.1, by unfold PySem.W.notCls; rw [hv] <;> rfl, by rw [hz.2]; exact ho⟩
      obtain ⟨cdD, hcD, _⟩ := PySem.W.any_some C.hd
      exact PySem.W.kia_one (PySem.W.kitx_exc (by rw [hcD]; rfl) C.hg C.hk C.hs C.ha C.hn C.ht C.hm) I.kIn J e (fun z => nomatch z) fun tk => ⟨.bl b, H, I.kept (t' := tk) fun _ _ z => z, rfl, q⟩
/-- an own exception class with its own __init__ -/
structure ExK (K : PySem.W.Frag) (C fI : Addr) (fields : List Str) : Prop where
  oex : OexC K C
  sup : PySem.W.ks_superIn K C C "__init__" = some (some (.builtin "ValueError.__init__"))
  subV : PySem.W.subIn K (.ref C) (.type "ValueError") = some true
  mro : PySem.W.mroIn K C (.ref C) = some true
  iC : PySem.W.findIn K (.ref C) "__init__" = some (some (.ref fI))
  tI : PySem.W.typeIn K (.ref fI) = some (.type "function")
  no : ∀ f ∈ fields, PySem.W.findIn K (.ref C) f = some none
  xf : XfC K C
  is : ExcC K C
/-- what a suite that catches it must know -/
structure ExV (K : PySem.W.Frag) (C : Addr) (fields : List Str) : Prop where
  no : ∀ f ∈ fields, PySem.W.findIn K (.ref C) f = some none
  xf : XfC K C
  is : ExcC K C
/-- the i-th def of the class body -/
def mthS (s : Stmt) (i : Nat) : Stmt := match s with
  | .ClassDef _ _ _ b _ _ _ _ _ _ _ => b.getD i (.Pass ⟨0, 0, 0, 0⟩)
  | _ => .Pass ⟨0, 0, 0, 0⟩
/-- the same, from what the written part answers -/
theorem exk_mk {K : PySem.W.Frag} {C fI N : Addr} {fields : List Str} {nm q : Str} {bs bm : List Value} {sn : List Str} {sub : List Value} {ab : Bool} {col : Option Bool} {dd : Option Addr} {k0 k1 k2 k3 k5 : Option Value}
    (cls : K.lookup C = some (excClassObj nm q C N bs bm true sn sub ab col dd k0 k1 k2 k3 k5 "ValueError.__new__")) (ref : PySem.HandSPX.refsVE bm = true)
    (sa : PySem.W.findIn K (.ref C) "__setattr__" = some (some (.builtin "object.__setattr__"))) (exC : PySem.W.subIn K (.ref C) (.type "BaseException") = some true) (tyC : PySem.W.typeIn K (.ref C) = some (.type "type")) (kC : PySem.W.keepIn K (.ref C) = true)
    (sup : PySem.W.ks_superIn K C C "__init__" = some (some (.builtin "ValueError.__init__"))) (subV : PySem.W.subIn K (.ref C) (.type "ValueError") = some true) (mro : PySem.W.mroIn K C (.ref C) = some true)
    (iC : PySem.W.findIn K (.ref C) "__init__" = some (some (.ref fI))) (tI : PySem.W.typeIn K (.ref fI) = some (.type "function")) (no : ∀ f ∈ fields, PySem.W.findIn K (.ref C) f = some none)
    (ga : PySem.W.findIn K (.ref C) "__getattribute__" = some (some (.builtin "BaseException.__getattribute__"))) (gg : PySem.W.findIn K (.ref C) "__getattr__" = some none) (hd : PySem.W.hasDictIn K C = true)
    (hcl : PySem.W.findIn K (.ref C) "__class__" = some (some (.builtin "object.__class__"))) (hn : PySem.W.specialIn K (.builtin "object.__class__") "__get__" = some (some (.builtin "getset_descriptor.__get__"))) (ht : PySem.W.takesIn K (.builtin "object.__class__") = some true) (hm : PySem.W.mroIn K C (.type "object") = some true) : ExK K C fI fields :=
  ⟨⟨⟨nm, q, N, bs, bm, sn, sub, ab, col, dd, k0, k1, k2, k3, k5, cls, ref⟩, sa, exC, tyC, kC⟩, sup, subV, mro, iC, tI, no, ⟨ga, gg, exC, hd⟩, ⟨ga, gg, exC, hd, hcl, hn, ht, hm⟩⟩

/-! ### an own exception's __init__, by what it keeps -/
def spE (C : Addr) (ok : List V → Prop) (fs : List V → List (Str × V)) : Sp := fun vs H Q _ => ∃ (a : Addr) (ws : List V), vs = .ref a :: ws ∧ ok ws ∧ H a = some (exo a C none) ∧
  ∀ (dx : Addr) (H' : Hp), H dx = none → dx ≠ a → H' a = some (exo a C (some dx)) → H' dx = some (exd dx (fs ws)) → (∀ b, b ≠ a → b ≠ dx → H' b = H b) → Q .non H'
theorem mk_spE {C : Addr} {ok : List V → Prop} {fs : List V → List (Str × V)} {vs : List V} {H1 : Hp} {Q : XK} (hl : vs.length ≤ 1000) (ho : ok vs) (hq : ∀ d, H1 d = none → Q (.ref C) (some d) (upd H1 d (.xd (fs vs)))) :
    vs.length ≤ 1000 ∧ ∀ a, H1 a = none → spE C ok fs (.ref a :: (vs ++ [])) (upd H1 a (exo a C none))
      (fun v H2 => v = .non ∧ ∃ (d : Addr) (fs : List (Str × V)), H2 a = some (exo a C (some d)) ∧ H2 d = some (exd d fs) ∧ H1 d = none ∧ Q (.ref C) (some d) (upd (del H2 a) d (.xd fs))) (fun _ _ _ => False) := by
  refine ⟨hl, fun a na => ⟨a, vs, by rw [List.append_nil], ho, upd_same, fun dx H' n ne e1 e2 hh => ⟨rfl, dx, fs vs, e1, e2, ?_, ?_⟩⟩⟩
  · rw [upd_ne ne] at n
    exact n
  · have nd : H1 dx = none := by rw [upd_ne ne] at n; exact n
    have e : upd (del H' a) dx (.xd (fs vs)) = upd H1 dx (.xd (fs vs)) := by
      funext b
      by_cases hb : b = dx
      · rw [hb, upd_same, upd_same]
      · rw [upd_ne hb, upd_ne hb]
        by_cases ha : b = a
        · rw [ha, del_same, na]
        · rw [del_ne ha, hh b ha hb, upd_ne ha]
    rw [e]
    exact hq dx nd
/-- the class, its __init__, ready for a raise -/
structure CalE (P : Program) (w : World) (K : PySem.W.Frag) (mg : Str → Option Value) (base : Heap) (k : Nat) (x : Str) (C f : Addr) (fd : FuncData) (ps : List Str) (ok : List V → Prop) (fs : List V → List (Str × V)) (fields : List Str) : Prop where
  G : FnOk P w K mg base CX0 k f fd ps (spE C ok fs)
  b : Binds K fd ps []
  X : ExK K C f fields
  m : mg x = some (.ref C)
/-- one store, the dict being new -/
theorem ost1 {a C : Addr} {H : Hp} {f : Str} {y : V} {Q : Hp → Prop} (ea : H a = some (exo a C none)) (q : ∀ dx H', H dx = none → dx ≠ a → H' a = some (exo a C (some dx)) → H' dx = some (exd dx [(f, y)]) → (∀ b, b ≠ a → b ≠ dx → H' b = H b) → Q H') :
    ∀ dx, H dx = none → dx ≠ a → Q (upd (upd H dx (exd dx [(f, y)])) a (exo a C (some dx))) := fun dx n ne =>
  q dx _ n ne upd_same (by rw [upd_ne ne, upd_same]) fun b h1 h2 => by rw [upd_ne h1, upd_ne h2]
end El

set_option Elab.async false
set_option linter.all false
set_option maxRecDepth 100000
/-! Own words: a text times an int, the text of an int. -/
namespace El
open PySem PySem.Spec PyProof.Rows L2
def repS (z : Str) (k : Int) : Str := if k < 1 then Str.empty else if (k == 1 || z.length == 0) = true then z else ⟨(List.replicate k.toNat z.cps).foldl (· ++ ·) #[]⟩
theorem foldl_cps : ∀ (n : Nat) (a b : Array Nat), ((List.replicate n b).foldl (· ++ ·) a).toList = a.toList ++ (List.replicate n b.toList).flatten
  | 0, a, b => by simp
  | n + 1, a, b => by
    rw [List.replicate_succ, List.foldl_cons, foldl_cps n, Array.toList_append, List.replicate_succ, List.flatten_cons, List.append_assoc]
theorem repS_cps (z : Str) (k : Int) : (repS z k).cps.toList = (List.replicate k.toNat z.cps.toList).flatten := by
  unfold repS
  split
  · rename_i h
    rw [show k.toNat = 0 by omega]
    rfl
  · split
    · rename_i h1 h
      rw [Bool.or_eq_true, beq_iff_eq, beq_iff_eq] at h
      rcases h with h | h
      · subst h
        simp
      · have : z.cps.toList = [] := List.eq_nil_of_length_eq_zero (by rw [Array.length_toList]; exact h)
        rw [this]
        simp
    · rw [foldl_cps]
      rfl
theorem repS1 {c : Nat} {k : Int} : (repS ⟨#[c]⟩ k).cps.toList = List.replicate k.toNat c := by
  rw [repS_cps]
  simp
theorem op_mulS {X : Cx} : OpR X (binaryOp .Mult) (fun x y H Q => ∃ (z : Str) (k : Int), x = .str z ∧ y = .int k ∧ k ≤ 1000 ∧ -1000 ≤ k ∧ z.length ≤ 1000 ∧ Q (.str (repS z k)) H) := by
  intro pins s σ H x y v u Q I rx ry h
  obtain ⟨z, k, rfl, rfl, h1, h2, h3, q⟩ := h
  obtain ⟨t, rfl⟩ := rx
  obtain ⟨t', rfl⟩ := ry
  have e : (2 : Int) ^ 63 = 9223372036854775808 := by decide
  refine PySem.P.mul_str ?_ (fun n1 n2 => ?_) (fun n1 n2 => ?_) ?_
  · rw [e, decide_eq_false (by omega), decide_eq_false (by omega)]
    rfl
  · rw [e]
    have : ((9223372036854775808 : Int) - 1) / 1000 ≤ (9223372036854775808 - 1) / k := by
      refine Int.le_ediv_of_mul_le (by omega) ?_
      have : (9223372036854775808 - 1) / 1000 * k ≤ (9223372036854775808 - 1) / 1000 * 1000 := Int.mul_le_mul_of_nonneg_left h1 (by decide)
      refine Int.le_trans this (by decide)
    have : (1000 : Int) ≤ (9223372036854775808 - 1) / 1000 := by decide
    omega
  · have : z.length * k.toNat ≤ 1000 * 1000 := Nat.mul_le_mul h3 (by omega)
    show decide _ = false
    refine decide_eq_false ?_
    rw [sizeLine_eq]
    omega
  · unfold repS at q
    split
    · rename_i c
      rw [if_pos c] at q
      exact ⟨by decide, .str _, H, I.tok _, ⟨_, rfl⟩, q⟩
    · rename_i c
      rw [if_neg c] at q
      split
      · rename_i c2
        rw [if_pos c2] at q
        exact ⟨.str _, H, I, ⟨_, rfl⟩, q⟩
      · rename_i c2
        rw [if_neg c2] at q
        refine ⟨?_, .str _, H, I.tok _, ⟨_, rfl⟩, q⟩
        have e2 := foldl_cps k.toNat #[] z.cps
        have e3 : ((List.replicate k.toNat z.cps).foldl (· ++ ·) #[]).size = k.toNat * z.length := by
          rw [← Array.length_toList, e2, List.length_append]
          simp
          rfl
        show ((List.replicate k.toNat z.cps).foldl (· ++ ·) #[]).size ≤ sizeLine
        rw [e3, sizeLine_eq]
        have : k.toNat * z.length ≤ 1000 * 1000 := Nat.mul_le_mul (by omega) h3
        omega
/-- times, of texts too -/
def mulSM : R2 := fun x y H Q => match x, y with
  | .str z, .int k => k ≤ 1000 ∧ -1000 ≤ k ∧ z.length ≤ 1000 ∧ Q (.str (repS z k)) H
  | _, _ => mulM x y H Q
theorem op_mulSM {X : Cx} : OpR X (binaryOp .Mult) mulSM := opwk (OpR.or op_mulS op_mulM) fun x y H Q q => by
  unfold mulSM at q
  split at q
  · exact .inl ⟨_, _, rfl, rfl, q⟩
  · exact .inr q
/-- the signs of a number's text -/
theorem int_digits {i : Int} (h : 0 ≤ i) : ∀ c ∈ ((toString i : String) : Str).cps.toList, 48 ≤ c ∧ c ≤ 57 := by
  intro c hm
  by_cases hk : c ≠ 45 ∧ (c < 48 ∨ 57 < c)
  · exact absurd hm (int_text_free' c hk i)
  · by_cases h45 : c = 45
    · exfalso
      subst h45
      obtain ⟨n, rfl⟩ := Int.eq_ofNat_of_zero_le h
      rw [signs_ofString] at hm
      obtain ⟨ch, hc, e⟩ := List.mem_map.mp hm
      have hd : ch.isDigit = true := by
        have : ch ∈ (Nat.repr n).toList := hc
        exact Nat.isDigit_of_mem_toDigits (b := 10) (n := n) (by decide) (by decide) (by simpa [Nat.repr] using this)
      have := digit_range hd
      omega
    · omega
theorem int_text_ne (i : Int) : ((toString i : String) : Str).cps.toList ≠ [] := by
  rw [signs_ofString]
  intro h
  have h := List.map_eq_nil_iff.mp h
  have nn : ∀ n : Nat, (Nat.repr n).toList ≠ [] := fun n e => by
    have : Nat.toDigits 10 n = [] := by simpa [Nat.repr] using e
    exact Nat.toDigits_ne_nil this
  cases i with
  | ofNat n => exact nn n h
  | negSucc n =>
    have : ("-" ++ Nat.repr (n + 1)).toList = [] := h
    simp at this
end El

set_option Elab.async false
set_option linter.all false
set_option maxRecDepth 100000
set_option maxHeartbeats 4000000
/-! Own words: operators of own classes, static methods. -/
namespace El
open PySem PySem.Spec PyProof.Rows L2
theorem cmpBack_of {X : Cx} {pins : List (Addr × Obj)} {σ : L2.St} {Q : VK} {u : Value} {s' : Shared} (h : EP X pins σ Q u s') : PySem.W.CmpBack (EP X pins σ Q) u s' := by
  obtain ⟨v, H', I, r, q⟩ := id h
  cases v with
  | non => cases (show u = Value.none from r); exact h
  | bl b => cases (show u = Value.bool b from r); exact h
  | int i => obtain ⟨t, e⟩ := (show ∃ t, u = Value.int i t from r); subst e; exact h
  | str i => obtain ⟨t, e⟩ := (show ∃ t, u = Value.str i t from r); subst e; exact h
  | byt i => obtain ⟨t, e⟩ := (show ∃ t, u = Value.bytes i t from r); subst e; exact h
  | flt i => obtain ⟨t, e⟩ := (show ∃ t, u = Value.float i t from r); subst e; exact h
  | ref a => cases (show u = Value.ref a from r); exact h
  | ty n => cases (show u = Value.type n from r); exact h
/-- an own class's method for an operator -/
structure OpC (K : PySem.W.Frag) (C f : Addr) (op : Operator) : Prop where
  sf : PySem.W.selfFirst K C = true
  at_ : PySem.W.findIn K (.ref C) (PySem.dunder op.info.2) = some (some (.ref f))
  fn : PySem.W.isFn K (.ref f) = true
/-- .. with a value of the built-in type T on the right -/
structure OpT (K : PySem.W.Frag) (C f : Addr) (op : Operator) (T : String) : Prop where
  c : OpC K C f op
  hr : ∃ rc, PySem.W.findIn K (.ref C) (PySem.dunderR op.info.2) = some rc ∧ (rc = none ∨ ∃ g : Addr, rc = some (.ref g))
  h1 : ∃ fo, PySem.W.findIn K (.type T) (PySem.dunder op.info.2) = some fo
  h2 : ∃ ro, PySem.W.findIn K (.type T) (PySem.dunderR op.info.2) = some ro
  sub : PySem.W.subIn K (.type T) (.ref C) = some false
structure InvC (K : PySem.W.Frag) (C f : Addr) : Prop where
  at_ : PySem.W.findIn K (.ref C) "__invert__" = some (some (.ref f))
  fn : PySem.W.isFn K (.ref f) = true
section
variable {X : Cx} {CX : CXT} {k : Nat} {C f : Addr} {fd : FuncData} {ps : List Str} {sp : Sp} {E : XK} {op : Operator}
/-- a op b, both of the class at C -/
def rOwn (C : Addr) (sp : Sp) (E : XK) : R2 := fun x y H Q => ∃ a b dx fs dy gs, x = .ref a ∧ y = .ref b ∧ H a = some (.ins C dx fs) ∧ H b = some (.ins C dy gs) ∧ sp [.ref a, .ref b] H Q E
theorem op_own (c : OpC X.K C f op) (F : FnOk X.prog X.w X.K X.mg X.base CX k f fd ps sp) (hr : Room k X.A) (hb : Binds X.K fd ps []) (hx : Passes CX X E) : OpR X (binaryOp op) (rOwn C sp E) := by
  intro pins s σ H x y v u Q I rx ry h
  obtain ⟨a, b, dx, fs, dy, gs, rfl, rfl, ea, eb, q⟩ := h
  obtain rfl : v = Value.ref a := rx
  obtain rfl : u = Value.ref b := ry
  obtain ⟨m, fr⟩ := I.fr
  obtain ⟨mA, O, _⟩ := ins_get I.hok ea
  obtain ⟨od, J, _⟩ := O.look
  obtain ⟨mB, O2, _⟩ := ins_get I.hok eb
  obtain ⟨od2, J2, _⟩ := O2.look
  refine PySem.W.binop_K fr I.ok.mod.kin J J2.type c.sf c.at_ c.fn ?_
  refine wpAny_mono (run_fn (us := [.ref a, .ref b]) (vs := [.ref a, .ref b]) (ds := []) (dvs := []) F hr hb .nil hx I (.cons rfl (.cons rfl .nil)) q) (fun u' s' h' => cmpBack_of h') fun _ _ z => z
/-- a op n, n an int -/
def rOwnI (C : Addr) (sp : Sp) (E : XK) : R2 := fun x y H Q => ∃ a dx fs i, x = .ref a ∧ y = .int i ∧ H a = some (.ins C dx fs) ∧ sp [.ref a, .int i] H Q E
theorem op_ownI (c : OpT X.K C f op "int") (F : FnOk X.prog X.w X.K X.mg X.base CX k f fd ps sp) (hr : Room k X.A) (hb : Binds X.K fd ps []) (hx : Passes CX X E) : OpR X (binaryOp op) (rOwnI C sp E) := by
  intro pins s σ H x y v u Q I rx ry h
  obtain ⟨a, dx, fs, i, rfl, rfl, ea, q⟩ := h
  obtain rfl : v = Value.ref a := rx
  obtain ⟨t, rfl⟩ := ry
  obtain ⟨m, fr⟩ := I.fr
  obtain ⟨mA, O, _⟩ := ins_get I.hok ea
  obtain ⟨od, J, _⟩ := O.look
  obtain ⟨rc, hr1, hr2⟩ := c.hr
  obtain ⟨fo, h1⟩ := c.h1
  obtain ⟨ro, h2⟩ := c.h2
  refine PySem.W.ksp_binT fr I.ok.mod.kin J (T := "int") rfl c.c.sf c.c.at_ c.c.fn hr1 hr2 h1 h2 c.sub ?_
  refine wpAny_mono (run_fn (us := [.ref a, .int i t]) (vs := [.ref a, .int i]) (ds := []) (dvs := []) F hr hb .nil hx I (.cons rfl (.cons ⟨t, rfl⟩ .nil)) q) (fun u' s' h' => cmpBack_of h') fun _ _ z => z
/-- ~a -/
theorem un_own (c : InvC X.K C f) (F : FnOk X.prog X.w X.K X.mg X.base CX k f fd ps sp) (hr : Room k X.A) (hb : Binds X.K fd ps []) (hx : Passes CX X E) : UnR X (unaryOp .Invert) (fun x H Q => ∃ a dx fs, x = .ref a ∧ H a = some (.ins C dx fs) ∧ sp [.ref a] H Q E) := by
  intro pins s σ H x v Q I rx h
  obtain ⟨a, dx, fs, rfl, ea, q⟩ := h
  obtain rfl : v = Value.ref a := rx
  obtain ⟨m, fr⟩ := I.fr
  obtain ⟨mA, O, _⟩ := ins_get I.hok ea
  obtain ⟨od, J, _⟩ := O.look
  exact PySem.W.ksp_inv fr I.ok.mod.kin J c.at_ c.fn (run_fn (us := [.ref a]) (vs := [.ref a]) (ds := []) (dvs := []) F hr hb .nil hx I (.cons rfl .nil) q)
end

section
variable {X : Cx} {CX : CXT} {k : Nat} {C f : Addr} {fd : FuncData} {ps : List Str} {sp : Sp} {E : L2.St → XK} {op : Operator} {a b : Expr} {ta tb : TE} {pos : Pos}
/-- .. what it lets out being taken where it stands -/
def tOwnS (C : Addr) (sp : Sp) (E : L2.St → XK) (ta tb : TE) : TE := fun σ H Q => ta σ H fun x H1 => tb σ H1 fun y H2 => ∃ a b dx fs dy gs, x = .ref a ∧ y = .ref b ∧ H2 a = some (.ins C dx fs) ∧ H2 b = some (.ins C dy gs) ∧ sp [.ref a, .ref b] H2 Q (E σ)
theorem pe_bopS (c : OpC X.K C f op) (F : FnOk X.prog X.w X.K X.mg X.base CX k f fd ps sp) (hr : Room k X.A) (hb : Binds X.K fd ps []) (hx : ∀ σ, PassesAt CX X σ (E σ)) (ha : PE X a ta) (hb2 : PE X b tb) : PE X (.BinOp a op b pos) (tOwnS C sp E ta tb) := by
  refine ⟨fun pins s σ H Q I h => ?_⟩
  refine wpAny_BinOp (thn (ha.run pins s σ H _ I h) fun v s1 ⟨x, H1, I1, rx, q1⟩ => thn (hb2.run pins s1 σ H1 _ I1 q1) fun u s2 ⟨y, H2, I2, ry, a, b, dx, fs, dy, gs, ex, ey, ea, eb, q⟩ => ?_)
  subst ex ey
  obtain rfl : v = Value.ref a := rx
  obtain rfl : u = Value.ref b := ry
  obtain ⟨m, fr⟩ := I2.fr
  obtain ⟨mA, O, _⟩ := ins_get I2.hok ea
  obtain ⟨od, J, _⟩ := O.look
  obtain ⟨mB, O2, _⟩ := ins_get I2.hok eb
  obtain ⟨od2, J2, _⟩ := O2.look
  refine PySem.W.binop_K fr I2.ok.mod.kin J J2.type c.sf c.at_ c.fn ?_
  refine wpAny_mono (run_fnS (us := [.ref a, .ref b]) (vs := [.ref a, .ref b]) F hr hb (hx σ) I2 (.cons rfl (.cons rfl .nil)) q) (fun u' s' h' => cmpBack_of h') fun _ _ z => z
end

/-! ### static methods, by the class's name -/
structure SMet (K : PySem.W.Frag) (C : Addr) (mc : Value) (m : Str) (p g : Addr) : Prop where
  at_ : PySem.W.findCls K (.ref C) mc m = some (.get (.builtin "staticmethod.__get__") (.ref p) .none (.ref C))
  rc : ∃ rest, PySem.W.recIn K p "staticmethod" = some (.ref g :: rest)
  kp : PySem.W.keepIn K (.ref g) = true
section
variable {X : Cx} {CX : CXT} {k : Nat} {C p g : Addr} {mc : Value} {fd : FuncData} {ps : List Str} {sp : Sp} {E : XK} {o e : Expr} {es : List Expr} {m : Str} {pos apos : Pos} {ta : TE} {t : TA} {pl : Sem Bool}
def tSM (C : Addr) (sp : Sp) (E : XK) (ta : TE) (t : TA) : TE := fun σ H Q => ta σ H fun x H1 => x = .ref C ∧ t σ H1 fun vs H2 => sp vs H2 Q E
theorem getsm_ok {pins : List (Addr × Obj)} {σ : L2.St} {H : Hp} {s : Shared} {A : Around} {E : Value → Shared → Prop} {Q : Value × List Value → Shared → Prop} (I : Inv X pins σ H s) (r : ClX.CRead X.K C mc) (c : SMet X.K C mc m p g)
    (h : ∀ s', Inv X pins σ H s' → Q (.ref g, []) s') : wpAny (model X.prog X.w) A (getMethod (.ref C) m pl) Q E s := by
  obtain ⟨rest, hp⟩ := c.rc
  refine PySem.W.method_cls I.kIn r.ga ?_
  refine PySem.W.cls_bind I.kIn r.rd c.at_ ?_
  exact wpAny_call (PySem.W.sm_get (s := { s with toks := s.toks + 1 }) I.kIn hp (PySem.W.handed_on rfl (h _ (I.tok _))))
theorem pe_smeth (he : PE X o ta) (r : ClX.CRead X.K C mc) (c : SMet X.K C mc m p g) (F : FnOk X.prog X.w X.K X.mg X.base CX k g fd ps sp) (hr : Room k X.A) (hb : Binds X.K fd ps []) (hx : Passes CX X E) (ha : PA X (e :: es) t)
    (hst : starEach (e :: es) X.env = (false, eval e X.env) :: starEach es X.env := by rfl) (hpl : (backTo pos (starEach es X.env)).any (·.1) = false := by rfl)
    (ht : eval (.Call (.Attribute o m apos) (e :: es) [] pos) X.env = (do
      let ov ← eval o X.env
      standAt apos.atName
      let (f, first) ← holding [ov] (getMethod ov m pl)
      callWith pos f first (backTo pos (starEach (e :: es) X.env)) (backToKw pos (keywordEach [] X.env))) := by rfl) :
    PE X (.Call (.Attribute o m apos) (e :: es) [] pos) (tSM C sp E ta t) := by
  refine ⟨fun pins s σ H Q I h => ?_⟩
  refine PySem.W.methodCall_KW (pl := pl) (thn (he.run pins s σ H _ I h) fun u s1 ⟨x, H1, I1, rx, ex, q⟩ => ?_) ht
  subst ex
  obtain rfl : u = Value.ref C := rx
  refine getsm_ok I1 r c fun s2 I2 => ?_
  refine PySem.W.callWith_K (h₀ := X.base) I2.ok.mod.kin c.kp (thn (ha.run pos pins s2 σ H1 _ I2 q) fun us s3 ⟨vs, H2, I3, rv, q2⟩ => ⟨I3.kIn, ?_⟩) hst hpl
  have hl : sp (vs ++ []) H2 Q E := by rw [List.append_nil]; exact q2
  exact run_fn (ds := []) (dvs := []) F hr hb .nil hx I3 rv hl
theorem pe_smeth0 (he : PE X o ta) (r : ClX.CRead X.K C mc) (c : SMet X.K C mc m p g) (F : FnOk X.prog X.w X.K X.mg X.base CX k g fd ps sp) (hr : Room k X.A) (hb : Binds X.K fd ps []) (hx : Passes CX X E)
    (ht : eval (.Call (.Attribute o m apos) [] [] pos) X.env = (do
      let ov ← eval o X.env
      standAt apos.atName
      let (f, first) ← holding [ov] (getMethod ov m pl)
      callWith pos f first (backTo pos (starEach [] X.env)) (backToKw pos (keywordEach [] X.env))) := by rfl) :
    PE X (.Call (.Attribute o m apos) [] [] pos) (tSM C sp E ta tNil) := by
  refine ⟨fun pins s σ H Q I h => ?_⟩
  refine PySem.W.methodCall_KW (pl := pl) (thn (he.run pins s σ H _ I h) fun u s1 ⟨x, H1, I1, rx, ex, q⟩ => ?_) ht
  subst ex
  obtain rfl : u = Value.ref C := rx
  refine getsm_ok I1 r c fun s2 I2 => ?_
  exact PySem.W.callWith_K0 I2.kIn c.kp (run_fn (us := []) (vs := []) (ds := []) (dvs := []) F hr hb .nil hx I2 .nil q)
end

/-! ### defs of own classes, ready to be called -/
structure CalB (P : Program) (w : World) (K : PySem.W.Frag) (mg : Str → Option Value) (base : Heap) (CX : CXT) (k : Nat) (f : Addr) (fd : FuncData) (ps : List Str) (sp : Sp) : Prop where
  G : FnOk P w K mg base CX k f fd ps sp
  b : Binds K fd ps []
structure CalI (P : Program) (w : World) (K : PySem.W.Frag) (mg : Str → Option Value) (base : Heap) (CX : CXT) (k : Nat) (x : Str) (C f : Addr) (fd : FuncData) (ps : List Str) (sp : Sp) : Prop extends CalB P w K mg base CX k f fd ps sp where
  mkc : Mk K C f
  m : mg x = some (.ref C)
structure CalS (P : Program) (w : World) (K : PySem.W.Frag) (mg : Str → Option Value) (base : Heap) (CX : CXT) (k : Nat) (C p : Addr) (m : Str) (f : Addr) (fd : FuncData) (ps : List Str) (sp : Sp) : Prop extends CalB P w K mg base CX k f fd ps sp where
  rd : ClX.CRead K C (.type "type")
  sm : SMet K C (.type "type") m p f
structure CalP (P : Program) (w : World) (K : PySem.W.Frag) (mg : Str → Option Value) (base : Heap) (CX : CXT) (k : Nat) (C p : Addr) (m : Str) (f : Addr) (fd : FuncData) (ps : List Str) (sp : Sp) : Prop extends CalB P w K mg base CX k f fd ps sp where
  cl : Cls K C
  pr : PropOf K C m p f
structure CalO (P : Program) (w : World) (K : PySem.W.Frag) (mg : Str → Option Value) (base : Heap) (CX : CXT) (k : Nat) (C : Addr) (op : Operator) (f : Addr) (fd : FuncData) (ps : List Str) (sp : Sp) : Prop extends CalB P w K mg base CX k f fd ps sp where
  op : OpC K C f op
structure CalC (P : Program) (w : World) (K : PySem.W.Frag) (mg : Str → Option Value) (base : Heap) (CX : CXT) (k : Nat) (C f : Addr) (fd : FuncData) (ps : List Str) (sp : Sp) : Prop extends CalB P w K mg base CX k f fd ps sp where
  co : StX.CallO K C f

/-! ### the written part named (in comprehensions) -/
section
variable {X : Cx} {e : Expr} {es : List Expr} {f : Str} {pos p : Pos} {ta : TE} {t : TA}
theorem e_f (K : PySem.W.Frag) (he : PE X e ta) (hb : attributeBase e f X.env (eval e X.env) = eval e X.env := by rfl) (h : X.K = K := by rfl) : PE X (.Attribute e f pos) (tFld K ta f) := h ▸ pe_fld he hb
theorem e_cv (K : PySem.W.Frag) (he : PE X e ta) (hb : attributeBase e f X.env (eval e X.env) = eval e X.env := by rfl) (h : X.K = K := by rfl) : PE X (.Attribute e f pos) (ClX.tCVal K ta f) := h ▸ ClX.pe_cval he hb
end

/-! ### len of an own class -/
structure LenC (K : PySem.W.Frag) (C f : Addr) : Prop where
  at_ : PySem.W.findIn K (.ref C) "__len__" = some (some (.ref f))
  fn : PySem.W.isFn K (.ref f) = true
theorem call_lenO {X : Cx} {k : Nat} {C f : Addr} {fd : FuncData} {ps : List Str} {sp : Sp} (c : LenC X.K C f) (F : FnOk X.prog X.w X.K X.mg X.base CX0 k f fd ps sp) (hr : Room (k + 1) X.A) (hb : Binds X.K fd ps []) :
    CallR X (.builtin "len") (fun xs H Q => ∃ a dx fs, xs = [.ref a] ∧ H a = some (.ins C dx fs) ∧ sp [.ref a] H (fun v H' => ∃ n : Int, v = .int n ∧ 0 ≤ n ∧ n < 2 ^ 62 ∧ Q (.int n) H') E0) := by
  intro pins s σ H xs us Q I r h
  obtain ⟨a, dx, fs, rfl, ea, q⟩ := h
  obtain rfl := Vals.ref1 r
  obtain ⟨m, fr⟩ := I.fr
  obtain ⟨mA, O, _⟩ := ins_get I.hok ea
  obtain ⟨od, J, _⟩ := O.look
  refine PySem.W.len_K fr I.ok.mod.kin J c.at_ c.fn ?_
  have hl : ([Value.ref a] ++ []).length = ps.length := (F.len _ _ _ _ q)
  have b := hb s [.ref a] I.kIn hl
  rw [List.append_nil] at b
  refine wpAny_call (codeAny_mono (F.run X.A.in1 X.stack s H ⟨[.ref a], []⟩ [.ref a] [.ref a] _ E0 hr.in1 I.env0.in1 b (.cons rfl .nil) q) fun r s' hq' => ?_)
  cases r with
  | error e => exact False.elim hq'
  | ok fl =>
    cases fl with
    | ret u =>
      obtain ⟨v, H', I3, rv, n, rfl, h0, h1, q3⟩ := I.after hq'
      obtain ⟨t, rfl⟩ := rv
      exact ⟨⟨h0, Int.lt_trans h1 (by decide)⟩, ⟨.int n, H', I3.tok _, ⟨_, rfl⟩, q3⟩⟩
    | next => exact False.elim hq'
    | brk => exact False.elim hq'
    | cont => exact False.elim hq'
structure CalL (P : Program) (w : World) (K : PySem.W.Frag) (mg : Str → Option Value) (base : Heap) (CX : CXT) (k : Nat) (C f : Addr) (fd : FuncData) (ps : List Str) (sp : Sp) : Prop extends CalB P w K mg base CX k f fd ps sp where
  le : LenC K C f
end El

set_option Elab.async false
set_option linter.all false
set_option maxRecDepth 100000
set_option maxHeartbeats 4000000
/-! Own words: static methods and callable objects inside a try; exception classes that inherit their __init__. -/
namespace El
open PySem PySem.Spec PyProof.Rows L2
section
variable {X : Cx} {CX : CXT} {k : Nat} {C p g f : Addr} {mc : Value} {fd : FuncData} {ps : List Str} {sp : Sp} {E : L2.St → XK} {o e fe : Expr} {es : List Expr} {m : Str} {pos apos : Pos} {ta tf : TE} {t : TA} {pl : Sem Bool}
theorem code_fnS {pins : List (Addr × Obj)} {σ : L2.St} {H : Hp} {s : Shared} {Q : VK} {us : List Value} {vs : List V} (F : FnOk X.prog X.w X.K X.mg X.base CX k f fd ps sp) (hr : Room k X.A) (hb : Binds X.K fd ps []) (hx : PassesAt CX X σ (E σ))
    (I : Inv X pins σ H s) (r : Vals vs us) (h : sp vs H Q (E σ)) : codeAny (model X.prog X.w) X.A (.call (.ref f) ⟨us, []⟩) (fun r s' => match r with | .ok (.ret u) => EP X pins σ Q u s' | .error e => X.xe e s' | _ => False) s := by
  have hl : us.length = ps.length := by rw [← r.length]; exact F.len _ _ _ _ h
  have b := hb s us I.kIn (by rw [List.append_nil]; exact hl)
  rw [List.append_nil] at b
  refine codeAny_mono (F.run X.A X.stack s H ⟨us, []⟩ us vs Q (E σ) hr I.env0 b r h) fun r s' hq => ?_
  cases r with
  | error e => exact hx pins H s e s' I hq
  | ok fl =>
    cases fl with
    | ret u => exact I.after hq
    | next => exact False.elim hq
    | brk => exact False.elim hq
    | cont => exact False.elim hq
/-- C.m(e, ..), what it lets out being taken where it stands -/
def tSMS (C : Addr) (sp : Sp) (E : L2.St → XK) (ta : TE) (t : TA) : TE := fun σ H Q => ta σ H fun x H1 => x = .ref C ∧ t σ H1 fun vs H2 => sp vs H2 Q (E σ)
theorem pe_smethS (he : PE X o ta) (r : ClX.CRead X.K C mc) (c : SMet X.K C mc m p g) (F : FnOk X.prog X.w X.K X.mg X.base CX k g fd ps sp) (hr : Room k X.A) (hb : Binds X.K fd ps []) (hx : ∀ σ, PassesAt CX X σ (E σ)) (ha : PA X (e :: es) t)
    (hst : starEach (e :: es) X.env = (false, eval e X.env) :: starEach es X.env := by rfl) (hpl : (backTo pos (starEach es X.env)).any (·.1) = false := by rfl)
    (ht : eval (.Call (.Attribute o m apos) (e :: es) [] pos) X.env = (do
      let ov ← eval o X.env
      standAt apos.atName
      let (f, first) ← holding [ov] (getMethod ov m pl)
      callWith pos f first (backTo pos (starEach (e :: es) X.env)) (backToKw pos (keywordEach [] X.env))) := by rfl) :
    PE X (.Call (.Attribute o m apos) (e :: es) [] pos) (tSMS C sp E ta t) := by
  refine ⟨fun pins s σ H Q I h => ?_⟩
  refine PySem.W.methodCall_KW (pl := pl) (thn (he.run pins s σ H _ I h) fun u s1 ⟨x, H1, I1, rx, ex, q⟩ => ?_) ht
  subst ex
  obtain rfl : u = Value.ref C := rx
  refine getsm_ok I1 r c fun s2 I2 => ?_
  refine PySem.W.callWith_K (h₀ := X.base) I2.ok.mod.kin c.kp (thn (ha.run pos pins s2 σ H1 _ I2 q) fun us s3 ⟨vs, H2, I3, rv, q2⟩ => ⟨I3.kIn, ?_⟩) hst hpl
  exact run_fnS F hr hb (hx σ) I3 rv q2
/-- f(e, ..), f an instance of C, what it lets out being taken where it stands -/
def tCallOS (C : Addr) (sp : Sp) (E : L2.St → XK) (tf : TE) (t : TA) : TE := fun σ H Q => tf σ H fun y H1 => ∃ a, y = V.ref a ∧ t σ H1 fun vs H2 => (∃ dx fs, H2 a = some (.ins C dx fs)) ∧ sp (V.ref a :: vs) H2 Q (E σ)
theorem pe_callOS (hf : PE X fe tf) (c : StX.CallO X.K C g) (F : FnOk X.prog X.w X.K X.mg X.base CX k g fd ps sp) (hb : Binds X.K fd ps []) (hr : Room k X.A) (hx : ∀ σ, PassesAt CX X σ (E σ)) (ha : PA X (e :: es) t)
    (ht : eval (.Call fe (e :: es) [] pos) X.env = (do callWith pos (← eval fe X.env) [] (backTo pos (starEach (e :: es) X.env)) (backToKw pos (keywordEach [] X.env))) := by rfl)
    (he : starEach (e :: es) X.env = (false, eval e X.env) :: starEach es X.env := by rfl) (hpl : (backTo pos (starEach es X.env)).any (·.1) = false := by rfl) : PE X (.Call fe (e :: es) [] pos) (tCallOS C sp E tf t) := by
  refine ⟨fun pins s σ H Q I h => ?_⟩
  refine Call_ (thn (hf.run pins s σ H _ I h) fun u s1 ⟨y, H1, I1, ry, a, ey, q⟩ => ?_) ht
  subst ey
  obtain rfl : u = Value.ref a := ry
  refine StX.callO_with (thn (ha.run pos pins s1 σ H1 _ I1 q) fun us s2 ⟨vs, H2, I2, r, hi, q2⟩ => ?_) he hpl
  obtain ⟨ox, od, J, hd⟩ := StX.insC_at I2 (.inr hi)
  refine ⟨⟨C, ox, od, J, hd⟩, ?_⟩
  refine wpAny_call (PySem.W.kco_code I2.kIn J hd c.at_ c.fn c.fi (codeAny_mono (code_fnS (us := .ref a :: us) (vs := .ref a :: vs) F hr hb (hx σ) I2 (.cons rfl r) q2) fun r s' h => ?_))
  cases r with
  | error e => exact h
  | ok fl =>
    cases fl with
    | ret u => exact h
    | next => exact False.elim h
    | brk => exact False.elim h
    | cont => exact False.elim h
end

/-! ### an exception class C whose __init__ is that of D above it -/
open NdefX
structure ExI (K : PySem.W.Frag) (C D fI : Addr) (fields : List Str) : Prop where
  oex : OexC K C
  sup : PySem.W.ks_superIn K C D "__init__" = some (some (.builtin "ValueError.__init__"))
  subV : PySem.W.subIn K (.ref C) (.type "ValueError") = some true
  mro : PySem.W.mroIn K C (.ref D) = some true
  iC : PySem.W.findIn K (.ref C) "__init__" = some (some (.ref fI))
  tI : PySem.W.typeIn K (.ref fI) = some (.type "function")
  no : ∀ f ∈ fields, PySem.W.findIn K (.ref C) f = some none
  xf : XfC K C
  is : ExcC K C
theorem exi_mk {K : PySem.W.Frag} {C D fI N : Addr} {fields : List Str} {nm q : Str} {bs bm : List Value} {sn : List Str} {sub : List Value} {ab : Bool} {col : Option Bool} {dd : Option Addr} {k0 k1 k2 k3 k5 : Option Value}
    (cls : K.lookup C = some (excClassObj nm q C N bs bm true sn sub ab col dd k0 k1 k2 k3 k5 "ValueError.__new__")) (ref : PySem.HandSPX.refsVE bm = true)
    (sa : PySem.W.findIn K (.ref C) "__setattr__" = some (some (.builtin "object.__setattr__"))) (exC : PySem.W.subIn K (.ref C) (.type "BaseException") = some true) (tyC : PySem.W.typeIn K (.ref C) = some (.type "type")) (kC : PySem.W.keepIn K (.ref C) = true)
    (sup : PySem.W.ks_superIn K C D "__init__" = some (some (.builtin "ValueError.__init__"))) (subV : PySem.W.subIn K (.ref C) (.type "ValueError") = some true) (mro : PySem.W.mroIn K C (.ref D) = some true)
    (iC : PySem.W.findIn K (.ref C) "__init__" = some (some (.ref fI))) (tI : PySem.W.typeIn K (.ref fI) = some (.type "function")) (no : ∀ f ∈ fields, PySem.W.findIn K (.ref C) f = some none)
    (ga : PySem.W.findIn K (.ref C) "__getattribute__" = some (some (.builtin "BaseException.__getattribute__"))) (gg : PySem.W.findIn K (.ref C) "__getattr__" = some none) (hd : PySem.W.hasDictIn K C = true)
    (hcl : PySem.W.findIn K (.ref C) "__class__" = some (some (.builtin "object.__class__"))) (hn : PySem.W.specialIn K (.builtin "object.__class__") "__get__" = some (some (.builtin "getset_descriptor.__get__"))) (ht : PySem.W.takesIn K (.builtin "object.__class__") = some true) (hm : PySem.W.mroIn K C (.type "object") = some true) : ExI K C D fI fields :=
  ⟨⟨⟨nm, q, N, bs, bm, sn, sub, ab, col, dd, k0, k1, k2, k3, k5, cls, ref⟩, sa, exC, tyC, kC⟩, sup, subV, mro, iC, tI, no, ⟨ga, gg, exC, hd⟩, ⟨ga, gg, exC, hd, hcl, hn, ht, hm⟩⟩
structure CalEI (P : Program) (w : World) (K : PySem.W.Frag) (mg : Str → Option Value) (base : Heap) (k : Nat) (x : Str) (C f : Addr) (fd : FuncData) (ps : List Str) (ok : List V → Prop) (fs : List V → List (Str × V)) (fields : List Str) : Prop where
  G : FnOk P w K mg base CX0 k f fd ps (spE C ok fs)
  b : Binds K fd ps []
  X : ∃ D, ExI K C D f fields
  m : mg x = some (.ref C)
theorem CalEI.oex {P : Program} {w : World} {K : PySem.W.Frag} {mg : Str → Option Value} {base : Heap} {k : Nat} {x : Str} {C f : Addr} {fd : FuncData} {ps : List Str} {ok : List V → Prop} {fs : List V → List (Str × V)} {fields : List Str} (c : CalEI P w K mg base k x C f fd ps ok fs fields) : OexC K C := by obtain ⟨D, X⟩ := c.X; exact X.oex
theorem CalEI.iC {P : Program} {w : World} {K : PySem.W.Frag} {mg : Str → Option Value} {base : Heap} {k : Nat} {x : Str} {C f : Addr} {fd : FuncData} {ps : List Str} {ok : List V → Prop} {fs : List V → List (Str × V)} {fields : List Str} (c : CalEI P w K mg base k x C f fd ps ok fs fields) : PySem.W.findIn K (.ref C) "__init__" = some (some (.ref f)) := by obtain ⟨D, X⟩ := c.X; exact X.iC
theorem CalEI.tI {P : Program} {w : World} {K : PySem.W.Frag} {mg : Str → Option Value} {base : Heap} {k : Nat} {x : Str} {C f : Addr} {fd : FuncData} {ps : List Str} {ok : List V → Prop} {fs : List V → List (Str × V)} {fields : List Str} (c : CalEI P w K mg base k x C f fd ps ok fs fields) : PySem.W.typeIn K (.ref f) = some (.type "function") := by obtain ⟨D, X⟩ := c.X; exact X.tI
/-! ### characters whose repr is bounded -/
def Asc (z : Str) : Prop := ∀ c ∈ z.cps.toList, c < 16 ^ 8
theorem repr_le {z : Str} (h : Asc z) (hl : z.length ≤ 1000) : (reprText z).length ≤ 10002 := Nat.le_trans (PySem.StrLaws.reprText_len z h) (by omega)
end El

set_option Elab.async false
set_option linter.all false
set_option maxRecDepth 100000
set_option maxHeartbeats 4000000
/-! Own words: methods of own classes, classes whose __init__ has defaults, tuple targets in comprehensions. -/
namespace El
open PySem PySem.Spec PyProof.Rows L2
structure CalM (P : Program) (w : World) (K : PySem.W.Frag) (mg : Str → Option Value) (base : Heap) (CX : CXT) (k : Nat) (C : Addr) (m : Str) (f : Addr) (fd : FuncData) (ps : List Str) (sp : Sp) : Prop extends CalB P w K mg base CX k f fd ps sp where
  cl : Cls K C
  me : Meth K C m f
/-- a class whose __init__ has defaults dvs that fill up -/
structure CalID (P : Program) (w : World) (K : PySem.W.Frag) (mg : Str → Option Value) (base : Heap) (CX : CXT) (k : Nat) (x : Str) (C f : Addr) (fd : FuncData) (ps : List Str) (dvs : List V) (sp : Sp) : Prop where
  G : FnOk P w K mg base CX k f fd ps sp
  b : ∃ ds, Vals dvs ds ∧ Binds K fd ps ds
  mkc : Mk K C f
  m : mg x = some (.ref C)
section
variable {X : Cx} {CX : CXT} {k : Nat} {C f : Addr} {fd : FuncData} {ps : List Str} {dvs : List V} {sp : Sp} {E : XK} {x : Str} {p pos : Pos} {e : Expr} {es : List Expr} {t : TA}
theorem pe_makeD (c : CalID X.prog X.w X.K X.mg X.base CX k x C f fd ps dvs sp) (hr : Room (k + 1) X.A) (hg : Gl X x) (hx : Passes CX X E) (ha : PA X (e :: es) t) (hdb : (x == ("__debug__" : Str)) = false := by decide)
    (he : starEach (e :: es) X.env = (false, eval e X.env) :: starEach es X.env := by rfl) (hpl : (backTo pos (starEach es X.env)).any (·.1) = false := by rfl) :
    PE X (.Call (.Name x p) (e :: es) [] pos) (tMake C sp dvs E t) := by
  obtain ⟨ds, hd, hb⟩ := c.b
  exact pe_make c.mkc c.G hr hg c.m hb hd hx ha hdb he hpl
end
section
variable {X : Cx}
theorem pg_tupK (K : PySem.W.Frag) {es : List Expr} {k : Nat} {t : TGs} {n : Nat} {pos : Pos} (hc : X.calm = true) (h : PGs X es t)
    (hn : (assignEach es X.env).length = n := by rfl) (hst : (assignEach es X.env).findIdx? (·.1) = none := by rfl) (hK : X.K = K := by rfl) : PG X (.Tuple es k pos) (gTup K n t) := hK ▸ pg_tup hc h hn hst
end
/-- a def of the text whose last parameter has a default -/
theorem fund_mk {K : PySem.W.Frag} {x qual : Str} {st : Stmt} {f T : Addr} {oc : Value} {od dd an : Option Addr} {osl dsl : Array (Option Value)} {kV doc pm cdv ct : Value} {its : Array Value} {n : Nat} {dvs : List V}
    (l : K.lookup f = some ⟨oc, od, .func (PySem.W.fnOf x qual (defArgs st) (defBody st) (defScope st) (.ref T) kV doc pm an cdv ct), osl⟩) (c : PySem.W.codeIn K cdv qual = true) (k : PySem.W.keepIn K (.ref f) = true)
    (lT : K.lookup T = some ⟨.type "tuple", dd, .seq its n, dsl⟩) (hv : Vals dvs its.toList) (hne : dvs ≠ []) : FunD K x qual (defArgs st) (defBody st) (defScope st) dvs [] f (PySem.W.fnOf x qual (defArgs st) (defBody st) (defScope st) (.ref T) kV doc pm an cdv ct) :=
  ⟨⟨oc, od, .ref T, kV, doc, pm, an, cdv, ct, osl, rfl, l, c, .inr ⟨hne, T, _, its.toList, n, rfl, lT, by simp, hv⟩, .inl rfl⟩, k⟩
end El

set_option Elab.async false
set_option linter.all false
set_option maxRecDepth 100000
set_option maxHeartbeats 4000000
/-! Own words: `in`, `not in` and `[..]` of own classes. -/
namespace El
open PySem PySem.Spec PyProof.Rows L2
/-- an own class's `__contains__` -/
structure InC (K : PySem.W.Frag) (C f : Addr) : Prop where
  at_ : PySem.W.findIn K (.ref C) "__contains__" = some (some (.ref f))
  fn : PySem.W.isFn K (.ref f) = true
/-- an own class's `__getitem__` -/
structure ItC (K : PySem.W.Frag) (C f : Addr) : Prop where
  at_ : PySem.W.findIn K (.ref C) "__getitem__" = some (some (.ref f))
  fn : PySem.W.isFn K (.ref f) = true
  ns : PySem.W.noSeq K C = true
section
variable {X : Cx} {CX : CXT} {k : Nat} {C f : Addr} {fd : FuncData} {ps : List Str} {sp : Sp} {E : XK}
/-- x in a, a of the class at C; n: not in -/
def rInO (n : Bool) (C : Addr) (sp : Sp) (E : XK) : R2 := fun x y H Q => ∃ a dx fs, y = .ref a ∧ H a = some (.ins C dx fs) ∧ sp [.ref a, x] H (fun v H' => ∃ b : Bool, v = .bl b ∧ Q (.bl (n ^^ b)) H') E
theorem op_inO (c : InC X.K C f) (F : FnOk X.prog X.w X.K X.mg X.base CX k f fd ps sp) (hr : Room k X.A) (hb : Binds X.K fd ps []) (hx : Passes CX X E) : OpR X (compareOp .In) (rInO false C sp E) := by
  intro pins s σ H x y v u Q I rx ry h
  obtain ⟨a, dx, fs, rfl, ea, q⟩ := h
  obtain rfl : u = Value.ref a := ry
  obtain ⟨m, fr⟩ := I.fr
  obtain ⟨mA, O, _⟩ := ins_get I.hok ea
  obtain ⟨od, J, _⟩ := O.look
  refine PySem.W.in_K fr I.ok.mod.kin J c.at_ c.fn ?_
  refine wpAny_mono (run_fn (us := [.ref a, v]) (vs := [.ref a, x]) (ds := []) (dvs := []) F hr hb .nil hx I (.cons rfl (.cons rx .nil)) q) (fun u' s' h' => ?_) fun _ _ z => z
  obtain ⟨w, H', I', rw', b, rfl, q'⟩ := h'
  cases (show u' = Value.bool b from rw')
  refine wpAny_pure ⟨.bl b, H', I', rfl, ?_⟩
  cases b <;> exact q'
theorem op_notInO (c : InC X.K C f) (F : FnOk X.prog X.w X.K X.mg X.base CX k f fd ps sp) (hr : Room k X.A) (hb : Binds X.K fd ps []) (hx : Passes CX X E) : OpR X (compareOp .NotIn) (rInO true C sp E) := by
  intro pins s σ H x y v u Q I rx ry h
  obtain ⟨a, dx, fs, rfl, ea, q⟩ := h
  obtain rfl : u = Value.ref a := ry
  obtain ⟨m, fr⟩ := I.fr
  obtain ⟨mA, O, _⟩ := ins_get I.hok ea
  obtain ⟨od, J, _⟩ := O.look
  refine PySem.W.notIn_K fr I.ok.mod.kin J c.at_ c.fn ?_
  refine wpAny_mono (run_fn (us := [.ref a, v]) (vs := [.ref a, x]) (ds := []) (dvs := []) F hr hb .nil hx I (.cons rfl (.cons rx .nil)) q) (fun u' s' h' => ?_) fun _ _ z => z
  obtain ⟨w, H', I', rw', b, rfl, q'⟩ := h'
  cases (show u' = Value.bool b from rw')
  refine wpAny_pure ⟨.bl (!b), H', I', rfl, ?_⟩
  cases b <;> exact q'
/-- a[y], a of the class at C -/
def rItO (C : Addr) (sp : Sp) (E : XK) : R2 := fun x y H Q => ∃ a dx fs, x = .ref a ∧ H a = some (.ins C dx fs) ∧ sp [.ref a, y] H Q E
theorem op_itO (c : ItC X.K C f) (F : FnOk X.prog X.w X.K X.mg X.base CX k f fd ps sp) (hr : Room k X.A) (hb : Binds X.K fd ps []) (hx : Passes CX X E) : OpR X getItem (rItO C sp E) := by
  intro pins s σ H x y v u Q I rx ry h
  obtain ⟨a, dx, fs, rfl, ea, q⟩ := h
  obtain rfl : v = Value.ref a := rx
  obtain ⟨m, fr⟩ := I.fr
  obtain ⟨mA, O, _⟩ := ins_get I.hok ea
  obtain ⟨od, J, _⟩ := O.look
  refine PySem.W.getItem_K fr I.ok.mod.kin J c.ns c.at_ c.fn ?_
  exact run_fn (us := [.ref a, u]) (vs := [.ref a, y]) (ds := []) (dvs := []) F hr hb .nil hx I (.cons rfl (.cons ry .nil)) q
end
end El

set_option Elab.async false
set_option linter.all false
set_option maxRecDepth 100000
set_option maxHeartbeats 4000000
/-! Own words: iterating an own class whose `__iter__` returns iter(..) of a tuple. -/
namespace El
open PySem PySem.Spec PyProof.Rows L2
/-- a promise that may speak of how many objects there were at the call -/
def FnS (P : Program) (w : World) (K : PySem.W.Frag) (mg : Str → Option Value) (base : Heap) (CX : CXT) (k : Nat) (f : Addr) (sp : Nat → Sp) : Prop :=
  ∀ (A : Around) (outer : List Env) (s : Shared) (H : Hp) (us : List Value) (vs : List V) (Q : VK) (E : XK), Room k A → Env0 P w K mg base A outer s H → Vals vs us → sp s.heap.objs.size vs H Q E →
    codeAny (model P w) A (.call (.ref f) ⟨us, []⟩) (CR CX outer P w H s Q E) s
section
variable {P : Program} {w : World} {K : PySem.W.Frag} {mg : Str → Option Value} {base : Heap} {j k : Nat} {f : Addr} {sp : Nat → Sp}
theorem FnS.mono {CX : CXT} (F : FnS P w K mg base CX j f sp) (h : j ≤ k) : FnS P w K mg base CX k f sp := fun A outer s H us vs Q E hr => F A outer s H us vs Q E (hr.mono h)
theorem fun_okS {x qual : Str} {st : Stmt} {fd : FuncData} {N ps : List Str} (F : Fun K x qual st f fd) (S : FnScope N ps (defScope st)) (hb : Binds K fd ps []) (len : ∀ n vs H Q E, sp n vs H Q E → vs.length = ps.length)
    (hbody : ∀ (cdv : Value) (A : Around) (outer : List Env) (s : Shared) (H : Hp) (vs : List V) (Q : VK) (E : XK), Room k (A.deeper (envOfC qual (defScope st) s.heap.objs.size f cdv)) → sp s.heap.objs.size vs H Q E →
      ∃ t, PSs (cxOf CX0 P w K mg base N qual (defScope st) f cdv A outer s H E).nox (defBody st) t ∧ t { nx := fun _ H' => Q .non H', rt := Q } (start N vs) H) : FnS P w K mg base CX0 (k + 1) f sp := by
  obtain ⟨oc, od, kV, doc, pm, an, cdv, ct, osl, rfl, lk, hcd⟩ := F.ex
  intro A outer s H us vs Q E hr e0 r hsp
  have hl := len _ _ _ _ _ hsp
  have KX : K.In s.heap := e0.mod.kin.keeps fun b o e => (e0.bs b o e).1
  have bt := hb s us KX (by rw [List.append_nil, ← r.length]; exact hl)
  rw [List.append_nil] at bt
  have nl : s.heap.NoLimit := e0.mod.nolimit.keeps fun b o e => (e0.bs b o e).1
  refine codeAny_call_function hr.depth (KX _ _ lk) rfl S.co S.gen rfl (PySem.W.codeRec_of KX hcd) (bt _ _ _ _ ?_)
  refine wpAny_newFunctionEnv_cells S.kind (fun y hy => (S.par y.1 (List.of_mem_zip hy).1).imp id fun q => ⟨q, PySem.W.cellsFrom_some _ _ _ (.inl q)⟩) fun env he s1 x => ⟨nl.keeps x.toInCall.keep, codeAny_func ?_⟩
  subst he
  obtain ⟨t, ht, hq⟩ := hbody cdv A outer s H vs Q E (hr.deeper _) hsp
  have I := inv_start (CX := CX0) (w := w) (E := E) S hr.hd e0 hl r x
  refine wpAny_mono (ht.nox.run [] s1 (start N vs) H _ I hq) (fun fl s' hs => ?_) fun _ _ hs => hs
  match fl, hs with
  | .ret u, ⟨v, σ', H', J, rv, q⟩ => exact ⟨v, H', J.os, J.bare, J.base, J.hok, rv, q⟩
  | .next, ⟨σ', H', J, q⟩ => exact ⟨V.non, H', J.os, J.bare, J.base, J.hok, rfl, q⟩
  | .brk, ⟨_, _, _, q⟩ => exact False.elim q
  | .cont, ⟨_, _, _, q⟩ => exact False.elim q
end

/-! ### iter(..) of a tuple -/
def tiObj (t : Addr) : Obj := { cls := .type "tuple_iterator", data := .fields #[.ref t, .int 0 0] }
/-- at it the iterator of the tuple at t, at its beginning -/
def TitO (t it : Addr) : HO := .ext fun h => h.get? it = some (tiObj t)
theorem titO_ok {P : Program} {w : World} {H : Hp} {h : Heap} {t it : Addr} (e : h.get? it = some (tiObj t)) : ObjOk P w H h it (TitO t it) := ⟨e, ⟨_, e⟩, fun _ _ q k => k _ q⟩
theorem titO_get {X : Cx} {pins : List (Addr × Obj)} {σ : L2.St} {H : Hp} {s : Shared} {t it : Addr} (I : Inv X pins σ H s) (e : H it = some (TitO t it)) : s.heap.get? it = some (tiObj t) := (I.hok it _ e).1
def rIterT (K : PySem.W.Frag) (n : Nat) : List V → Hp → VK → Prop := fun xs H Q => ∃ (t : Addr) (zs : List V), xs = [.ref t] ∧ SqT K H t zs ∧ ∀ it, H it = none → n ≤ it → Q (.ref it) (upd H it (TitO t it))
theorem run_iterT {prog : Program} {w : World} {A : Around} {E : Value → Shared → Prop} {s : Shared} {t : Addr} {items : Array Value} {Q : Value → Shared → Prop} (ht : s.heap.IsTuple t items) (h : Q (.ref s.heap.objs.size) { s with heap := s.heap.push (tiObj t) }) : wpAny (model prog w) A (call (.builtin "iter") [.ref t]) Q E s := by
  refine Calls.call_function_entry (by decide +kernel) (by decide +kernel) PySem.W.kdk_entry_iter (PySem.W.kdk_args_iter _) ?_
  unfold Builtin.«iter»
  refine wpAny_bind (m := someArgs "iter" 1 2 _) (wpAny_of_eq (a := [Value.ref t]) (by first | rfl | kernel_rfl!) ?_)
  exact wpAny_bind (wpAny_pyIter_tuple ht (wpAny_pure ⟨_, rfl, h⟩))
theorem call_iterT {X : Cx} : CallR X (.builtin "iter") (rIterT X.K X.s_0.heap.objs.size) := by
  intro pins s σ H xs us Q I r h
  obtain ⟨t, zs, rfl, hq, q⟩ := h
  obtain rfl := Vals.ref1 r
  obtain ⟨its, rv, p, hz⟩ := I.tuple hq
  refine run_iterT (show s.heap.IsTuple t its.toArray from p) ?_
  exact ⟨.ref s.heap.objs.size, _, I.laid (t' := s.toks) (fun b u e => Heap.get?_push_of_some _ e) (Nat.le_refl _) (titO_ok (Heap.get?_push_size _ rfl)), rfl, q _ (I.hok.fresh (Nat.le_refl _)) I.sz⟩
theorem iterTK {X : Cx} (K : PySem.W.Frag) (n : Nat) (h : X.K = K := by rfl) (hn : X.s_0.heap.objs.size = n := by rfl) : CallR X (.builtin "iter") (rIterT K n) := h ▸ hn ▸ call_iterT

/-! ### for x in a, a of the class at C -/
structure OitC (K : PySem.W.Frag) (C f : Addr) : Prop where
  at_ : PySem.W.findIn K (.ref C) "__iter__" = some (some (.ref f))
  fn : PySem.W.isFn K (.ref f) = true
/-- behind the call the iterator is forgotten -/
def iOwnT (K : PySem.W.Frag) (C : Addr) (sp : Nat → Sp) (n : Nat) (E : XK) (te : TE) : TI := fun σ H R => te σ H fun x H1 => ∃ a dx fs, x = .ref a ∧ H1 a = some (.ins C dx fs) ∧ ∀ m, n ≤ m → sp m [.ref a] H1 (fun v H2 => ∃ t it, v = .ref it ∧ H2 it = some (TitO t it) ∧ n ≤ it ∧ R (Itt K t) (ItX.dropH H2 it)) E
theorem pi_ownT {X : Cx} {CX : CXT} {k : Nat} {C f : Addr} {sp : Nat → Sp} {E : XK} {tg e : Expr} {te : TE} (c : OitC X.K C f) (F : FnS X.prog X.w X.K X.mg X.base CX k f sp) (hr : Room k X.A) (hx : Passes CX X E) (he : PE X e te) : PI X tg e (iOwnT X.K C sp X.s_0.heap.objs.size E te) := by
  refine ⟨fun pins s σ H R I h => ?_⟩
  refine thn (he.run pins s σ H _ I h) fun v s1 ⟨x, H1, I1, r1, a, dx, fs, ex, ea, q⟩ => ?_
  subst ex
  obtain rfl : v = Value.ref a := r1
  obtain ⟨m, fr⟩ := I1.fr
  obtain ⟨mA, O, _⟩ := ins_get I1.hok ea
  obtain ⟨od, J, _⟩ := O.look
  refine PySem.W.owit_iter fr I1.ok.mod.kin J c.at_ c.fn ?_
  refine wpAny_call (codeAny_mono (F X.A X.stack s1 H1 [.ref a] [.ref a] _ E hr I1.env0 (.cons rfl .nil) (q _ I1.sz)) fun r s' hq => ?_)
  match r, hq with
  | .error e, hq => exact hx pins σ H1 s1 e s' I1 hq
  | .ok (.ret u), hq =>
    obtain ⟨w', H2, I2, rw', t, it, rfl, hi, hn, hR⟩ := I1.after hq
    obtain rfl : u = Value.ref it := rw'
    have eo := titO_get I2 hi
    have hi' := hi
    unfold TitO at hi'
    have LT : PySem.W.Looks (model X.prog X.w) s'.heap (typeOf (.ref it)) (.type "tuple_iterator") := (PySem.W.Looks.ld (part := none) eo).andThen .now
    have LN : PySem.W.Looks (model X.prog X.w) s'.heap (specialOf (.ref it) (Str.ofString "__next__")) (some (.builtin "tuple_iterator.__next__")) := LT.andThen (PySem.W.Looks.of_pure slot_tupleiter_next.lookup)
    refine LN.here ?_
    refine ⟨it, [it], _, _, ItX.dropH H2 it, rfl, ItX.inv_drop I2 hi', turn_tuple t it, ⟨_, eo, rfl, rfl⟩, fun b hb => ?_, hR⟩
    have e : b = it := by simpa using hb
    rw [e]
    exact ItX.inv_fp I2 hi hn
  | .ok .next, hq => exact False.elim hq
  | .ok .brk, hq => exact False.elim hq
  | .ok .cont, hq => exact False.elim hq
end El

set_option Elab.async false
set_option linter.all false
set_option maxRecDepth 100000
set_option maxHeartbeats 4000000
/-! Own words: len(set(t)) of a tuple of any number of texts. -/
namespace El
open PySem PySem.Spec PyProof.Rows L2
/-- among the first i texts -/
def Has (xs : List Str) (i : Nat) : Str → Bool := fun y => (xs.take i).any (· == y)
/-- c different ones among the first i, as far as it is asked -/
def Cnt (xs : List Str) (i c : Nat) : Prop := c ≤ i ∧ (c = i ↔ (xs.take i).Nodup)
theorem has_iff {xs : List Str} {i : Nat} {y : Str} : Has xs i y = true ↔ y ∈ xs.take i := by
  unfold Has
  rw [List.any_eq_true]
  constructor
  · rintro ⟨z, hz, e⟩
    rw [beq_iff_eq] at e
    exact e ▸ hz
  · intro h
    exact ⟨y, h, beq_iff_eq.mpr rfl⟩
theorem take_more {xs : List Str} {i : Nat} {x : Str} (e : xs[i]? = some x) : xs.take (i + 1) = xs.take i ++ [x] := by rw [List.take_add_one, e]; rfl
theorem Cnt.nil (xs : List Str) : Cnt xs 0 0 := ⟨Nat.le_refl _, by simp⟩
theorem Cnt.more {xs : List Str} {i c : Nat} {x : Str} (h : Cnt xs i c) (e : xs[i]? = some x) : Cnt xs (i + 1) (if Has xs i x = true then c else c + 1) := by
  obtain ⟨h1, h2⟩ := h
  have hn : (xs.take (i + 1)).Nodup ↔ (xs.take i).Nodup ∧ x ∉ xs.take i := by
    rw [take_more e, List.nodup_append]
    constructor
    · rintro ⟨a, -, b⟩
      exact ⟨a, fun hx => b x hx x (List.mem_singleton.mpr rfl) rfl⟩
    · rintro ⟨a, b⟩
      refine ⟨a, by simp, fun y hy z hz => ?_⟩
      rw [List.mem_singleton] at hz
      intro q
      exact b (hz ▸ q ▸ hy)
  unfold Cnt
  rw [hn]
  by_cases q : Has xs i x = true
  · rw [if_pos q]
    refine ⟨by omega, ⟨fun z => absurd z (by omega), fun z => absurd (has_iff.mp q) z.2⟩⟩
  · rw [if_neg q]
    refine ⟨by omega, ⟨fun z => ⟨h2.mp (by omega), fun y => q (has_iff.mpr y)⟩, fun z => by rw [h2.mpr z.1]⟩⟩
section
variable {prog : Program} {w : World} {A : Around} {R : Result → Shared → Prop} {it : Addr} {fp wr : List Addr} {G : Array GenState → Array GenState → Prop} {n : Nat} {Pv : Nat → Value → Prop} {St : Nat → Shared → Prop}
theorem loopTx (W : WalksS prog w A.in1 it fp wr G n Pv St) (b : Addr) (hb : b ∉ fp) (xs : List Str) (hn : xs.length = n) (hs : n + 1 < scanBound) (hv : ∀ i v, Pv i v → ∃ t, v = .str (xs.getD i Str.empty) t) :
    ∀ (k i : Nat) (s : Shared), n - i = k → i ≤ n → St i s → (∃ c, Cnt xs i c ∧ s.heap.SetOf (PySem.strKind prog w) b (Has xs i) c) →
      (∀ s' c, Moved (b :: wr) G s s' → Cnt xs n c → s'.heap.SetOf (PySem.strKind prog w) b (Has xs n) c → R (.ok (.ret .none)) s') →
      codeAny (model prog w) A (.builtin "set.update.loop" ⟨[.ref b, .ref it], []⟩) R s := by
  have hbw : b ∉ wr := fun h => hb (W.sub _ h)
  have wsub : ∀ q ∈ wr, q ∈ b :: wr := fun q hq => List.mem_cons_of_mem _ hq
  intro k
  induction k with
  | zero =>
    rintro i s hk hi st ⟨c, hc, ho⟩ done
    obtain rfl : i = n := by omega
    refine codeAny_builtin PyProof.Rows.F.entry_set_update_loop ?_
    rw [Around.under_plainId PyProof.Rows.F.plain_set_update_loop _]
    refine wpAny_bind (m := pyNext (.ref it)) (W.done s _ _ st fun s1 mv => ?_)
    refine wpAny_pure (done s1 c (mv.mono wsub) hc ?_)
    obtain ⟨o, es, ep, tb, e, more⟩ := ho
    exact ⟨o, es, ep, tb, mv.heap b _ hbw e, more⟩
  | succ k ih =>
    rintro i s hk hi st ⟨c, hc, ho⟩ done
    have lt : i < n := by omega
    refine codeAny_builtin PyProof.Rows.F.entry_set_update_loop ?_
    rw [Around.under_plainId PyProof.Rows.F.plain_set_update_loop _]
    refine wpAny_bind (m := pyNext (.ref it)) (W.item i s _ _ lt st fun v s1 pv st1 mv => ?_)
    obtain ⟨t, rfl⟩ := hv i v pv
    have ei : xs[i]? = some (xs.getD i Str.empty) := by
      rw [List.getD_eq_getElem?_getD, List.getElem?_eq_getElem (by omega)]; rfl
    have ho1 : s1.heap.SetOf (PySem.strKind prog w) b (Has xs i) c := by
      obtain ⟨o, es, ep, tb, e, more⟩ := ho
      exact ⟨o, es, ep, tb, mv.heap b _ hbw e, more⟩
    refine wpAny_bind (m := holding [Value.str (xs.getD i Str.empty) t] (setAdd b (.str (xs.getD i Str.empty) t))) (wpAny_holding ?_)
    unfold setAdd
    refine wpAny_holding (wpAny_bind ((PySem.strKind prog w).pyHash (strKind_is _ _ _ _) ?_))
    have hlt : c + 1 < scanBound := by have := hc.1; omega
    refine wpAny_setAddHashed_of (knd := PySem.strKind prog w) (s := { s1 with toks := s1.toks + 1 }) (strKind_is _ _ _ _) rfl ho1 hlt fun h' same ho2 => ?_
    have ho3 : h'.SetOf (PySem.strKind prog w) b (Has xs (i + 1)) (if Has xs i (xs.getD i Str.empty) = true then c else c + 1) := by
      refine SetOf_congr ho2 (fun y => ?_) rfl
      rw [Bool.eq_iff_iff, has_iff, take_more ei, List.mem_append, List.mem_singleton, Bool.or_eq_true, has_iff, decide_eq_true_iff]
    refine wpAny_pure ⟨plainId_quiet PyProof.Rows.F.plain_set_update_loop _, ih (i + 1) _ (by omega) lt (W.frame _ s1 _ _ st1 (Nat.le_succ _) fun q hq o e => ?_) ⟨_, hc.more ei, ho3⟩ fun s2 c2 mv2 hc2 hS2 => ?_⟩
    · exact (same.2 q fun z => hb (z ▸ hq)).trans e
    · refine done s2 c2 (Moved.trans W.gtrans ((mv.mono wsub).then_heap (Nat.le_succ _) fun q o hq e => ?_) mv2) hc2 hS2
      exact (same.2 q fun z => hq (z ▸ List.mem_cons_self)).trans e
end
/-- a new set's object -/
def setObj (led : Bool) : Obj := { cls := .type "set", dict := none, data := .set #[] 0 (.fresh 0 0 led) }
section
variable {prog : Program} {w : World} {A : Around} {E : Value → Shared → Prop} {s : Shared}
/-- what set.__init__ does to a new set with a tuple of texts -/
theorem init_tx {l : Addr} {items : Array Value} {xs : List Str} {led : Bool} (hh : A.handled = none) (hl : s.heap.IsTuple l items) (hi : PyProof.Rows.StrsAre items.toList xs) (hx : xs.length + 1 < scanBound) :
    codeAny (model prog w) A (.call (.builtin "set.__init__") ⟨[.ref s.heap.objs.size, .ref l], []⟩)
      (wants (fun r s2 => r = .none ∧ ∃ h' tk c, s2 = { s with heap := h', toks := tk } ∧ Cnt xs xs.length c ∧ h'.SetOf (PySem.strKind prog w) s.heap.objs.size (Has xs xs.length) c ∧ (∀ q o, s.heap.get? q = some o → h'.get? q = some o)) E)
      { s with heap := s.heap.push (setObj led) } := by
  have hT : Shared.TypeIs { s with heap := s.heap.push (setObj led) } (.ref s.heap.objs.size) "set" := ⟨_, Heap.get?_push_size _ rfl, rfl⟩
  refine codeAny_call_builtin PySem.F.called_set.init.plain PySem.F.entry_set_init (check_set_init_1 hT ?_)
  obtain ⟨⟨kc, kd, kx, ks⟩, hol, hcl, nl, hdl⟩ := hl
  simp only at hcl hdl
  subst hcl hdl
  have hol' : (s.heap.push (setObj led)).get? l = some _ := Heap.get?_push_of_some _ hol
  have hl1 : (s.heap.push (setObj led)).IsTuple l items := ⟨_, hol', rfl, nl, rfl⟩
  have hsls := PySem.F.sub_tuple_set
  have hslf := PySem.F.sub_tuple_frozenset
  have hne : (Value.type "tuple" == Value.type "dict") = false := by decide
  unfold Builtin.«set.__init__» noKeywords Builtin.Frozenset.updateFrom
  generalize ePI : pyIter = PI
  wp_walk
  subst ePI
  refine wpAny_pyIter_tuple hl1 (wpAny_bind (wpAny_runValue ?_))
  have below : l < s.heap.objs.size := Heap.lt_size hol
  have nh : A.in1.in1.handled = none := by simp [hh]
  have z1 : (s.heap.push (setObj led)).objs.size = s.heap.objs.size + 1 := Heap.size_push ..
  have apart : l ≠ (s.heap.push (setObj led)).objs.size := by
    rw [z1]
    exact Nat.ne_of_lt (Nat.lt_succ_of_lt below)
  have out : s.heap.objs.size ∉ [(s.heap.push (setObj led)).objs.size, l] := by
    rw [List.mem_cons, List.mem_singleton, z1]
    exact fun q => q.elim (Nat.ne_of_lt (Nat.lt_succ_self _)) (Nat.ne_of_gt below)
  have zx : xs.length = items.size := by rw [← StrsAre.len_eq hi, Array.length_toList]
  refine loopTx ((Walks.tuple nh _ l apart items).toS) s.heap.objs.size out xs zx (zx ▸ hx) (fun i v e => SS.strs_at hi i v (Array.getElem?_toList ▸ e)) (items.size - 0) 0 _ (by omega) (Nat.zero_le _) ?at_ ?first ?last
  case at_ => exact ⟨⟨_, Heap.get?_push_size _ rfl, rfl, rfl⟩, hl1.push _⟩
  case first =>
    refine ⟨0, Cnt.nil xs, ?_⟩
    refine SetOf_congr ((PyProof.Rows.setObjOf_fresh (knd := PySem.strKind prog w) led).setOf (Heap.get?_push_of_some _ (Heap.get?_push_size _ rfl)) (by unfold scanBound; omega)) (fun y => ?_) rfl
    rfl
  case last =>
    rintro ⟨h', g', d', tk', os'⟩ c mv hc ho
    obtain rfl : g' = s.gens := mv.gens
    obtain rfl : d' = s.drawn := mv.drawn
    obtain rfl : os' = s.os := mv.os
    refine wpAny_pure (wpAny_pure ⟨rfl, h', tk', c, rfl, zx ▸ hc, zx ▸ ho, fun q o e => ?_⟩)
    have lq := Heap.lt_size e
    refine mv.heap q o (by rw [List.mem_cons, List.mem_singleton, z1]; exact fun z => z.elim (Nat.ne_of_lt lq) (Nat.ne_of_lt (Nat.lt_succ_of_lt lq))) (Heap.get?_push_of_some _ (Heap.get?_push_of_some _ e))
set_option maxHeartbeats 8000000 in
theorem call_set_tx {l : Addr} {items : Array Value} {xs : List Str} {Q : Value → Shared → Prop} (hh : A.handled = none) (hl : s.heap.IsTuple l items) (hi : PyProof.Rows.StrsAre items.toList xs) (hx : xs.length + 1 < scanBound)
    (h : ∀ (h' : Heap) (tk c : Nat), Cnt xs xs.length c → h'.SetOf (PySem.strKind prog w) s.heap.objs.size (Has xs xs.length) c → (∀ q o, s.heap.get? q = some o → h'.get? q = some o) → Q (.ref s.heap.objs.size) { s with heap := h', toks := tk }) :
    wpAny (model prog w) A (call (.type "set") [.ref l]) Q E s := by
  obtain ⟨_, _, hmro⟩ := PySem.F.called_set.mro
  have hmade := PySem.F.called_set.made
  have hsub := PySem.F.called_set.sub
  have h1 := PySem.F.called_set.notType
  have h2 := PySem.F.called_set.canCreate
  have hct := PySem.F.typeCall_set_1 (.ref l)
  refine wpAny_call (codeAny_of_tree (wpAny_pure (a := _) ⟨Code.quiet_builtin _ (by decide +kernel), codeAny_builtin PySem.F.entry_type_call ?_⟩))
  rw [Around.under_plain (weight_type_call_type "set" [.ref l] []) rfl]
  repeat (any_goals (first | assumption | wp_step))
  refine codeAny_mono (code_set_new_1 (.ref l) (E := E) (Q₁ := fun v s1 => ∃ led, v = .ref s.heap.objs.size ∧ s1 = { s with heap := s.heap.push (setObj led) }) fun led => ⟨led, rfl, rfl⟩) fun r s1 hr => ?_
  match r, hr with
  | .ok (.ret v), hr =>
    obtain ⟨led, rfl, rfl⟩ := hr
    have hS : (s.heap.push (setObj led)).get? s.heap.objs.size = some (setObj led) := Heap.get?_push_size _ rfl
    have hT : Shared.TypeIs { s with heap := s.heap.push (setObj led) } (.ref s.heap.objs.size) "set" := ⟨_, hS, rfl⟩
    have hli := PySem.F.called_set.init.lookup
    have hbi := PySem.F.called_set.init.bind (.ref s.heap.objs.size)
    repeat (any_goals (first | assumption | wp_step))
    refine codeAny_mono (init_tx (E := E) (by simp [hh]) hl hi hx) fun r s2 hr => ?_
    match r, hr with
    | .ok (.ret v), hr =>
      obtain ⟨rfl, h', tk, c, rfl, hc, ho, keep⟩ := hr
      repeat (any_goals (first | assumption | wp_step))
      exact h h' tk c hc ho keep
    | .error e, hr => exact hr
    | .ok .next, hr => exact hr.elim
    | .ok .brk, hr => exact hr.elim
    | .ok .cont, hr => exact hr.elim
  | .error e, hr => exact hr
  | .ok .next, hr => exact hr.elim
  | .ok .brk, hr => exact hr.elim
  | .ok .cont, hr => exact hr.elim
end
/-- len(set(t)), t a tuple of texts: how many different ones, so far as it matters here -/
def tLenSetTx (K : PySem.W.Frag) (ta : TE) : TE := fun σ H Q => ta σ H fun x H1 => ∃ (l : Addr) (xs : List Str), x = .ref l ∧ SqT K H1 l (xs.map V.str) ∧ xs.length < 64 ∧ ∀ c : Nat, c ≤ xs.length → (c = xs.length ↔ xs.Nodup) → Q (.int c) H1
theorem pe_lenSetTx {X : Cx} {a : Expr} {ta : TE} {p p2 q pos : Pos} (hg : Gl X "len") (hm : X.mg "len" = none) (hg2 : Gl X "set") (hm2 : X.mg "set" = none) (ha : PE X a ta) (hc : X.calm = true := by rfl)
    (na : starEach [a] X.env = (false, eval a X.env) :: starEach [] X.env := by rfl) : PE X (.Call (.Name "len" p) [.Call (.Name "set" p2) [a] [] q] [] pos) (tLenSetTx X.K ta) := by
  refine ⟨fun pins s σ H Q I h => Call_ (ld_blt I hg hm boot_len (PyProof.Rows.callWith_builtin1 (PyProof.Rows.args_cons (Call_ (ld_blt I hg2 hm2 boot_set (PyProof.Rows.callWith_type1 (PyProof.Rows.args_cons (thn (ha.run pins s σ H _ I h) fun v s1 ⟨x, H1, I1, r1, q1⟩ => PyProof.Rows.args_nil ?_) na) na rfl))) rfl) rfl rfl))⟩
  obtain ⟨l, xs, rfl, ht, few, q1⟩ := q1
  obtain rfl : v = Value.ref l := r1
  obtain ⟨its, rv, pl, _⟩ := I1.tuple ht
  refine call_set_tx (I1.ok.hd hc) pl (by simpa using strsAre_of rv) (by unfold scanBound; omega) fun h' tk c hcn hS keep => PyProof.Rows.args_nil ?_
  obtain ⟨o, es, ep, tb, ho, hex, hd, _, _, _, hf, hn⟩ := hS
  have I2 : Inv X pins σ H1 { s1 with heap := h', toks := tk } := I1.kept keep
  obtain ⟨c1, c2⟩ := hcn
  rw [List.take_length] at c2
  exact call_len_set ho hex hd hf (by rw [hn]; omega) ⟨.int c, H1, I2.tok _, ⟨_, by rw [hn]⟩, q1 c c1 c2⟩
end El

set_option Elab.async false
set_option linter.all false
set_option maxRecDepth 100000
set_option maxHeartbeats 4000000
/-! Own words: enumerate(t) of a tuple. -/
namespace El
open PySem PySem.Spec PyProof.Rows L2
open AutoSeq1 (wpAny_loadPart')
/-- the tuple at a, each item in a new pair with its place -/
def IteT (K : PySem.W.Frag) (a : Addr) : It where
  go := fun i H => ∃ (xs : List V) (x : V), SqT K H a xs ∧ xs[i]? = some x
  yld := fun i H v H' => ∃ T x, v = .ref T ∧ H T = none ∧ H' = upd H T (.tup [.int (i : Nat), x]) ∧ ∀ xs, SqT K H a xs → xs[i]? = some x
  stop := fun i H => ∃ xs : List V, SqT K H a xs ∧ xs.length ≤ i
theorem walk_enumT {K : PySem.W.Frag} {a : Addr} {xs : List V} : Walk (IteT K a) xs.length (fun H => SqT K H a xs) (YPair (fun i => some (.int (i : Nat))) (fun i => xs[i]?)) where
  goes := fun i _ hi q => ⟨xs, xs[i], q, by simp [hi]⟩
  stops := fun _ q => ⟨xs, q, Nat.le_refl _⟩
  yields := fun i H v H' _ q y => by
    obtain ⟨T, x, h1, h2, h3, h4⟩ := y
    exact ⟨T, .int (i : Nat), x, h1, h2, h3, rfl, h4 xs q⟩
/-- the object of an enumerate over it, at its beginning -/
def enObj (it : Addr) : Obj := { cls := .type "enumerate", data := .fields #[.none, .bool false, .ref it, rawInt 0, .none, .none] }
theorem enum_newT (t : Addr) (items : Array Value) (n : Nat) (dct : Option Addr) (sl : Array (Option Value)) :
    Meets (Builtin.«enumerate.__new__» ⟨[.type "enumerate", .ref t], []⟩) (fun _ R s => s.heap.get? t = some ⟨.type "tuple", dct, .seq items n, sl⟩ ∧ R (.ok (.ret (.ref (s.heap.push (tiObj t)).objs.size))) { s with heap := (s.heap.push (tiObj t)).push (enObj s.heap.objs.size) }) :=
  .of_wp fun prog w A R s h => by
    obtain ⟨hp, g, d, tk, os⟩ := s
    obtain ⟨ht, h⟩ := h
    have hsub := sub_enumerate
    have hT : Heap.IsTuple (Shared.heap ⟨hp, g, d, tk, os⟩) t items := ⟨_, ht, rfl, n, rfl⟩
    wp_walk using wpAny_loadPart' ht
    refine wpAny_stack_any fun st => wpAny_pure ?_
    split
    · rename_i c _ _ _ _ _
      cases (c == Value.type "enumerate") <;> (wp_walk using wpAny_loadPart' ht, wpAny_pyIter_tuple hT; exact ⟨_, rfl, h⟩)
    · wp_walk using wpAny_loadPart' ht, wpAny_pyIter_tuple hT
      exact ⟨_, rfl, h⟩
section
variable {prog : Program} {w : World} {A : Around} {E : Value → Shared → Prop} {s : Shared}
theorem call_enumT {t : Addr} {items : Array Value} {Q : Value → Shared → Prop} (hT : s.heap.IsTuple t items)
    (h : ∀ h', IsEnum h' (s.heap.objs.size + 1) s.heap.objs.size 0 .none → h'.IsTupleIter s.heap.objs.size t 0 → (∀ b o, s.heap.get? b = some o → h'.get? b = some o) → Q (.ref (s.heap.objs.size + 1)) { s with heap := h' }) :
    wpAny (model prog w) A (call (.type "enumerate") [.ref t]) Q E s := by
  obtain ⟨⟨c, dct, dt, sl⟩, ht, hc, n, hd⟩ := hT
  simp only at hc hd
  subst hc hd
  refine callType_new F.called_enumerate (by decide) (F.typeCall_enumerate_1 _) (F.newCall_enumerate_1 _) (fun obj => F.args_object_init_2 obj _) F.entry_enumerate_new (enum_newT t items n dct sl) ⟨ht, ?_⟩
  have hz : (s.heap.push (tiObj t)).objs.size = s.heap.objs.size + 1 := Heap.size_push ..
  have he : IsEnum ((s.heap.push (tiObj t)).push (enObj s.heap.objs.size)) (s.heap.objs.size + 1) s.heap.objs.size 0 .none := by
    have q := Heap.get?_push_size (s.heap.push (tiObj t)) (o := enObj s.heap.objs.size) rfl
    rw [hz] at q
    exact q
  rw [hz]
  exact ⟨⟨_, he, rfl⟩, h _ he ⟨_, Heap.get?_push_of_some _ (Heap.get?_push_size _ rfl), rfl, rfl⟩ fun b o x => Heap.get?_push_of_some _ (Heap.get?_push_of_some _ x)⟩
end
theorem turn_enumT {P : Program} {w : World} {K : PySem.W.Frag} {elts : List Expr} {kk : Nat} {tpos : Pos} (t e it : Addr) (items : Array Value) :
    Turn P w K (.Tuple elts kk tpos) (IteT K t) [e, it] e (fun i h => (∃ old, IsEnum h e it ((i : Nat) : Int) old) ∧ h.IsTupleIter it t i ∧ e ≠ it ∧ t ≠ it ∧ t ≠ e) where
  mem := List.mem_cons_self
  obj := fun i h st b hb => by
    obtain ⟨⟨old, he⟩, ⟨o, ho, hc, hd⟩, _⟩ := st
    rw [List.mem_cons, List.mem_singleton] at hb
    rcases hb with z | z
    · exact z ▸ ⟨_, he, fun v q => nomatch q⟩
    · exact z ▸ ⟨o, ho, fun v q => by rw [hd] at q; cases q⟩
  keep := fun i h h' st k => by
    obtain ⟨⟨old, he⟩, hi, hne⟩ := st
    exact ⟨⟨old, k e List.mem_cons_self _ he⟩, hi.at fun o q => k it (List.mem_cons_of_mem _ List.mem_cons_self) o q, hne⟩
  item := by
    intro X hP hw hK hc i pins s σ H E I hf st hg
    subst hP hw hK
    obtain ⟨⟨old, he⟩, hit, hne, n1, n2⟩ := st
    obtain ⟨xs, x, hq, hx⟩ := hg
    obtain ⟨its, rv, p, hz⟩ := I.tuple hq
    obtain ⟨u, hu, ru⟩ := rv.get hx
    have lt : i < its.toArray.size := by
      have := (List.getElem?_eq_some_iff.mp hu).1
      simpa using this
    have le : e < s.heap.objs.size := Heap.lt_size he
    have li : it < s.heap.objs.size := by obtain ⟨_, q, _⟩ := hit; exact Heap.lt_size q
    have nf : e ∉ [it, t] := by
      rw [List.mem_cons, List.mem_singleton]
      exact fun z => z.elim hne fun z => n2 z.symm
    refine wpAny_pyNext_enum_itemD (Draws.tuple (A := X.A.in1) (by simpa using I.ok.hd hc) it t n1 its.toArray) he ⟨hit, p⟩ lt hne nf fun v h' tk hv ho hit' hT hsz hk => ?_
    obtain rfl : v = u := by
      have e1 : its.toArray[i]? = some u := by simpa using hu
      exact Option.some.inj (hv.symm.trans e1)
    refine ⟨_, rfl, wpAny_letOwnedTupleGo_enum (s := { s with heap := h', toks := tk + 1 }) ho fun h'' he' sb => ?_⟩
    have hT2 := (sb.2 _ (Nat.ne_of_gt le)).trans hT
    have new : ObjOk X.prog X.w (upd H s.heap.objs.size (.tup [.int (i : Nat), x])) h'' s.heap.objs.size (.tup [.int (i : Nat), x]) :=
      ⟨by show 2 ≤ sizeLine; decide, [.int i tk, v], .cons ⟨_, rfl⟩ (.cons ru .nil), ⟨_, hT2, rfl, _, rfl⟩⟩
    have I1 : Inv X pins σ (upd H s.heap.objs.size (.tup [.int (i : Nat), x])) { s with heap := h'', toks := tk + 1 } := by
      refine I.turnedNew (ch := [e, it]) (fun b ob hb q => ?_) hf (Nat.le_refl _) new
      rw [List.mem_cons, List.mem_singleton, not_or] at hb
      exact (sb.2 b hb.1).trans (hk b ob hb.1 hb.2 q)
    refine ⟨.ref s.heap.objs.size, _, I1, rfl, ⟨_, x, rfl, I.hok.fresh (Nat.le_refl _), rfl, fun ys hy => by rw [I.tuple_inj hy hq]; exact hx⟩, ⟨⟨v, ?_⟩, hit'.1.at fun o q => (sb.2 it (Ne.symm hne)).trans q, hne, n1, n2⟩, fun b hb => ?_⟩
    · have e1 : ((i + 1 : Nat) : Int) = (i : Int) + 1 := by omega
      rw [e1]
      exact he'
    · have lb : b < s.heap.objs.size := by
        rw [List.mem_cons, List.mem_singleton] at hb
        rcases hb with z | z
        · rw [z]; exact le
        · rw [z]; exact li
      rw [upd_ne (Nat.ne_of_lt lb)]
      exact (hf b hb).1
  done := by
    intro X hP hw hK hc i pins s σ H E I hf st hg
    subst hP hw hK
    obtain ⟨⟨old, he⟩, hit, hne, n1, n2⟩ := st
    obtain ⟨xs, hq, hx⟩ := hg
    obtain ⟨its, rv, p, hz⟩ := I.tuple hq
    obtain ⟨f0, f1, f2, f3, f4, f5⟩ := hf it (List.mem_cons_of_mem _ List.mem_cons_self)
    have none_ : its.toArray[i]? = none := by
      have hl := rv.length
      simp
      omega
    have D : Draws X.prog X.w X.A.in1 it [it, t] 0 (fun _ _ => False) (fun _ h => h.IsTupleIter it t i ∧ h.IsTuple t its.toArray) :=
      { live := fun _ _ st => let ⟨o, ho, _⟩ := st.1; ⟨o, ho⟩
        frame := fun _ _ _ st hk => ⟨st.1.at fun o e => hk it List.mem_cons_self o e, st.2.at fun o e => hk t (List.mem_cons_of_mem _ List.mem_cons_self) o e⟩
        item := fun _ _ _ _ z => absurd z (Nat.not_lt_zero _)
        done := fun s Q E st hE => wpAny_nextOf_tuple_end (by simpa using I.ok.hd hc) st.1 st.2 none_ hE }
    exact wpAny_pyNext_enum_endD D he ⟨hit, p⟩ fun h' eb => ⟨rfl, I.turned (t' := s.toks) (fun b o hb q => eb b o hb q) f0 f1 f3 f4 f5⟩
  self := fun A i s Q E st h => by
    obtain ⟨⟨_, he⟩, _⟩ := st
    exact wpAny_pyIter_enum he h
def iEnumT (K : PySem.W.Frag) (ta : TA) : TI := fun σ H R => ta σ H fun vs H1 => ∃ a xs, vs = [.ref a] ∧ SqT K H1 a xs ∧ R (IteT K a) H1
theorem pi_enumT {X : Cx} {e : Expr} {ta : TA} {p pos tpos : Pos} {elts : List Expr} {kk : Nat} (hg : Gl X "enumerate") (hm : X.mg "enumerate" = none) (ha : PA X [e] ta) (hs : starEach [e] X.env = [(false, eval e X.env)] := by rfl) :
    PI X (.Tuple elts kk tpos) (.Call (.Name "enumerate" p) [e] [] pos) (iEnumT X.K ta) := by
  refine ⟨fun pins s σ H R I h => Call_ (ld_blt I hg hm boot_enumerate (PyProof.Rows.callWith_type1 (thn (ha.run pos pins s σ H _ I h) fun us s1 ⟨vs, H1, I1, r1, a, xs, ex, hq, q⟩ => ?_) hs rfl))⟩
  subst ex
  obtain rfl := Vals.ref1 r1
  obtain ⟨its, rv, pt, hz⟩ := I1.tuple hq
  have la : a < s1.heap.objs.size := by obtain ⟨o, ho, _⟩ := pt; exact Heap.lt_size ho
  refine call_enumT pt fun h' he hit hk => wpAny_pyIter_enum he ?_
  refine ⟨s1.heap.objs.size + 1, [s1.heap.objs.size + 1, s1.heap.objs.size], _, _, H1, rfl, I1.kept (t' := s1.toks) hk, turn_enumT a (s1.heap.objs.size + 1) s1.heap.objs.size its.toArray, ⟨⟨.none, he⟩, hit, Nat.succ_ne_self _, Nat.ne_of_lt la, Nat.ne_of_lt (Nat.lt_succ_of_lt la)⟩, fun b hb => ?_, q⟩
  have hle : s1.heap.objs.size ≤ b := by
    rw [List.mem_cons, List.mem_singleton] at hb
    rcases hb with z | z
    · exact z ▸ Nat.le_succ _
    · exact z ▸ Nat.le_refl _
  exact I1.fpOk hle (I1.hok.fresh hle)
end El

set_option Elab.async false
set_option linter.all false
set_option maxRecDepth 100000
set_option maxHeartbeats 4000000
/-! Own words: a list or a tuple walked; own classes made, read by [..] inside a try; own exceptions without arguments. -/
namespace El
open PySem PySem.Spec PyProof.Rows L2 NdefX
section
variable {X : Cx} {tg l : Expr} {tl : TE}
def iSeq (K : PySem.W.Frag) (tl : TE) : TI := fun σ H R => tl σ H fun x H1 => ∃ a xs, x = .ref a ∧ ((SqL K H1 a xs ∧ R (Itl K a) H1) ∨ (SqT K H1 a xs ∧ R (Itt K a) H1))
theorem pi_seq (hl : PE X l tl) : PI X tg l (iSeq X.K tl) := by
  refine ⟨fun pins s σ H R I h => thn (hl.run pins s σ H _ I h) fun v s1 ⟨x, H1, I1, r1, a, xs, ex, q⟩ => ?_⟩
  subst ex
  obtain rfl : v = Value.ref a := r1
  have new : ∀ b ∈ [s1.heap.objs.size], FpOk X pins H1 b := fun b hb => by
    rw [List.mem_singleton] at hb
    exact hb ▸ I1.fpOk (Nat.le_refl _) (I1.hok.fresh (Nat.le_refl _))
  rcases q with ⟨hq, q⟩ | ⟨hq, q⟩
  · obtain ⟨its, rv, p, _⟩ := I1.list hq
    exact wpAny_pyIter_list p.isList ⟨_, _, _, _, H1, rfl, I1.kept (t' := s1.toks) fun b o e => Heap.get?_push_of_some _ e, turn_list a _, ⟨_, Heap.get?_push_size _ rfl, rfl, rfl⟩, new, q⟩
  · obtain ⟨its, rv, p, _⟩ := I1.tuple hq
    exact wpAny_pyIter_tuple p ⟨_, _, _, _, H1, rfl, I1.kept (t' := s1.toks) fun b o e => Heap.get?_push_of_some _ e, turn_tuple a _, ⟨_, Heap.get?_push_size _ rfl, rfl, rfl⟩, new, q⟩
end
theorem pi_seqK {X : Cx} {tg l : Expr} {tl : TE} (K : PySem.W.Frag) (hl : PE X l tl) (h : X.K = K := by rfl) : PI X tg l (iSeq K tl) := h ▸ pi_seq hl
section
variable {X : Cx} {CX : CXT} {k : Nat} {C f : Addr} {fd : FuncData} {ps : List Str} {ds : List Value} {dvs : List V} {sp : Sp} {E : L2.St → XK} {x : Str} {p pos : Pos} {a b e : Expr} {es : List Expr} {ta tb : TE} {t : TA}
/-- C(e, ..), what its __init__ lets out being taken where it stands -/
def tMakeS (C : Addr) (sp : Sp) (E : L2.St → XK) (t : TA) : TE := fun σ H Q => t σ H fun vs H1 => ∀ x dx, H1 x = none → H1 dx = none → dx ≠ x → sp (.ref x :: vs) (upd (upd H1 dx (.own x)) x (.ins C dx [])) (fun v H2 => v = .non ∧ Q (.ref x) H2) (E σ)
theorem run_makeS {pins : List (Addr × Obj)} {σ : L2.St} {H : Hp} {s : Shared} {Q : VK} {us : List Value} {vs : List V} {E : XK} (M : Mk X.K C f) (F : FnOk X.prog X.w X.K X.mg X.base CX k f fd ps sp) (hr : Room (k + 1) X.A) (hb : Binds X.K fd ps [])
    (hx : PassesAt CX X σ E) (I : Inv X pins σ H s) (r : Vals vs us)
    (h : ∀ x dx, H x = none → H dx = none → dx ≠ x → sp (.ref x :: vs) (upd (upd H dx (.own x)) x (.ins C dx [])) (fun v H2 => v = .non ∧ Q (.ref x) H2) E) : wpAny (model X.prog X.w) X.A (call (.ref C) us) (EP X pins σ Q) X.xe s := by
  have fresh := fun n hn => I.hok.fresh (a := n) hn
  have q := h (s.heap.objs.size + 1) s.heap.objs.size (fresh _ (Nat.le_succ _)) (fresh _ (Nat.le_refl _)) (Nat.ne_of_lt (Nat.lt_succ_self _))
  have J := Inv.made (C := C) I
  have rr : Vals (V.ref (s.heap.objs.size + 1) :: vs) (Value.ref (s.heap.objs.size + 1) :: us) := .cons rfl r
  have hl : (Value.ref (s.heap.objs.size + 1) :: us ++ []).length = ps.length := by rw [List.append_nil, ← rr.length]; exact F.len _ _ _ _ q
  have bt := hb _ (Value.ref (s.heap.objs.size + 1) :: us) J.kIn hl
  rw [List.append_nil] at bt
  refine wpAny_call (make_map (f := f) I.kIn M.makes M.init (beq_iff_eq.mp M.fn) (codeAny_mono (F.run _ X.stack _ _ ⟨Value.ref (s.heap.objs.size + 1) :: us, []⟩ _ _ _ E (hr.make C us []) (J.env0.make C us []) bt rr q) fun r s' hs => ?_))
  match r, hs with
  | .error e, hs => exact hx pins _ _ e s' J hs
  | .ok (.ret u), hs =>
    obtain ⟨v, H', J', rv, ev, q'⟩ := J.after hs
    subst ev
    exact ⟨rv, V.ref (s.heap.objs.size + 1), H', J', rfl, q'⟩
  | .ok .next, hs => exact False.elim hs
  | .ok .brk, hs => exact False.elim hs
  | .ok .cont, hs => exact False.elim hs
theorem pe_makeS (M : Mk X.K C f) (F : FnOk X.prog X.w X.K X.mg X.base CX k f fd ps sp) (hr : Room (k + 1) X.A) (hg : Gl X x) (hm : X.mg x = some (.ref C)) (hb : Binds X.K fd ps []) (hx : ∀ σ, PassesAt CX X σ (E σ)) (ha : PA X (e :: es) t)
    (hdb : (x == ("__debug__" : Str)) = false := by decide) (he : starEach (e :: es) X.env = (false, eval e X.env) :: starEach es X.env := by rfl) (hpl : (backTo pos (starEach es X.env)).any (·.1) = false := by rfl) :
    PE X (.Call (.Name x p) (e :: es) [] pos) (tMakeS C sp E t) := by
  refine ⟨fun pins s σ H Q I h => wpAny_Call_Name_kw (ld_glob I hg hm ?_ hdb)⟩
  refine PySem.W.callWith_K (h₀ := X.base) I.ok.mod.kin M.kp (thn (ha.run pos pins s σ H _ I h) fun us s1 ⟨vs, H1, I1, r, q⟩ => ⟨I1.kIn, ?_⟩) he hpl
  exact run_makeS M F hr hb (hx σ) I1 r q
/-- an own class's `__getitem__`, as it is read by [..] -/
structure SubC (K : PySem.W.Frag) (C f : Addr) : Prop where
  at_ : PySem.W.findIn K (.ref C) "__getitem__" = some (some (.ref f))
  fn : PySem.W.isFn K (.ref f) = true
  fi : PySem.W.fnIn K f = true
/-- a[y], a of the class at C, what it lets out being taken where it stands -/
def tItS (C : Addr) (sp : Sp) (E : L2.St → XK) (ta tb : TE) : TE := fun σ H Q => ta σ H fun x H1 => tb σ H1 fun y H2 => ∃ a dx fs, x = .ref a ∧ H2 a = some (.ins C dx fs) ∧ sp [.ref a, y] H2 Q (E σ)
theorem pe_itS (c : SubC X.K C f) (F : FnOk X.prog X.w X.K X.mg X.base CX k f fd ps sp) (hr : Room (k + 1) X.A) (hb : Binds X.K fd ps []) (hx : ∀ σ, PassesAt CX X σ (E σ)) (ha : PE X a ta) (hb2 : PE X b tb)
    (hs : ∀ o i, subscripted b true o i = runValue (.builtin "lifetime.subscript" ⟨[o, i], []⟩) := by intro _ _; rfl) : PE X (.Subscript a b pos) (tItS C sp E ta tb) := by
  refine ⟨fun pins s σ H Q I h => Subscript_ (binT ha hb2 I (R := fun x y H2 => ∃ a dx fs, x = .ref a ∧ H2 a = some (.ins C dx fs) ∧ sp [.ref a, y] H2 Q (E σ)) h fun v u s2 x y H2 I2 rx ry q => ?_)⟩
  obtain ⟨a, dx, fs, rfl, ea, q⟩ := q
  obtain rfl : v = Value.ref a := rx
  obtain ⟨m, fr⟩ := I2.fr
  obtain ⟨mA, O, _⟩ := ins_get I2.hok ea
  obtain ⟨od, J, _⟩ := O.look
  refine PySem.W.sub_K fr I2.ok.mod.kin J c.at_ c.fi c.fn ?_ (hs _ _)
  have hl : ([Value.ref a, u] ++ []).length = ps.length := F.len _ _ _ _ q
  have bt := hb s2 [.ref a, u] I2.kIn hl
  rw [List.append_nil] at bt
  refine wpAny_call (codeAny_mono (F.run X.A.in1 X.stack s2 H2 ⟨[.ref a, u], []⟩ [.ref a, u] [.ref a, y] Q (E σ) hr.in1 I2.env0.in1 bt (.cons rfl (.cons ry .nil)) q) fun r s' hq => ?_)
  match r, hq with
  | .error e, hq => exact hx σ pins H2 s2 e s' I2 hq
  | .ok (.ret u), hq => exact I2.after hq
  | .ok .next, hq => exact False.elim hq
  | .ok .brk, hq => exact False.elim hq
  | .ok .cont, hq => exact False.elim hq
end
section
variable {X : Cx} {CX : CXT} {k : Nat} {C f : Addr} {fd : FuncData} {ps : List Str} {sp : Sp} {E : XK} {pos : Pos} {a b : Expr} {ta tb : TE}
theorem pe_itO (c : SubC X.K C f) (F : FnOk X.prog X.w X.K X.mg X.base CX k f fd ps sp) (hr : Room (k + 1) X.A) (hb : Binds X.K fd ps []) (hx : Passes CX X E) (ha : PE X a ta) (hb2 : PE X b tb)
    (hs : ∀ o i, subscripted b true o i = runValue (.builtin "lifetime.subscript" ⟨[o, i], []⟩) := by intro _ _; rfl) : PE X (.Subscript a b pos) (tItS C sp (fun _ => E) ta tb) :=
  pe_itS c F hr hb (fun σ pins H s e s' I h => hx pins σ H s e s' I h) ha hb2 hs
end
/-! ### an own exception made without arguments -/
section
variable {X : Cx} {p pos : Pos}
theorem pmk_oex0 {CX : CXT} {x : Str} {C fI : Addr} {k : Nat} {fd : FuncData} {ps : List Str} {sp : Sp} (T : OexC X.K C) (iC : PySem.W.findIn X.K (.ref C) "__init__" = some (some (.ref fI))) (tI : PySem.W.typeIn X.K (.ref fI) = some (.type "function"))
    (F1 : FnOk X.prog X.w X.K X.mg X.base CX k fI fd ps sp) (hr : Room (k + 1) X.A) (hb : Binds X.K fd ps []) (hx : Passes CX X (fun _ _ _ => False)) (hg : Gl X x) (hm : X.mg x = some (.ref C)) (hdb : (x == ("__debug__" : Str)) = false := by decide) :
    PMk X (.Call (.Name x p) [] [] pos) (tMkO C sp [] tNil) := by
  intro pins s σ H Q I h
  obtain ⟨nm, q, N, bs, bm, sn, sub, ab, col, dd, k0, k1, k2, k3, k5, hC, hbm⟩ := T.cls
  refine wpAny_Call_Name_kw (ld_glob I hg hm ?_ hdb)
  refine PySem.W.callWith_K0 I.kIn T.kC ?_
  obtain ⟨_, q1⟩ := h
  obtain ⟨hp, g, dr, tk, os⟩ := s
  have up : hp.objs.size ≤ hp.objs.size + 1 := Nat.le_succ _
  have hq := q1 (hp.objs.size + 1) (I.hok.fresh up)
  have stay : ∀ b o, hp.get? b = some o → ((hp.push (PySem.W.kdv_tup [])).push (PySem.HandSPX.excO C hp.objs.size)).get? b = some o := fun b o e => Heap.get?_push_of_some _ (Heap.get?_push_of_some _ e)
  have there : ((hp.push (PySem.W.kdv_tup [])).push (PySem.HandSPX.excO C hp.objs.size)).get? (hp.objs.size + 1) = some (PySem.HandSPX.excO C hp.objs.size) := by heap_get
  have I2 := I.laid (t' := tk) (a := hp.objs.size + 1) (o := exo (hp.objs.size + 1) C none) (h' := (hp.push (PySem.W.kdv_tup [])).push (PySem.HandSPX.excO C hp.objs.size)) stay up (exo_ok there)
  have hl : ([Value.ref (hp.objs.size + 1)] ++ []).length = ps.length := F1.len _ _ _ _ hq
  refine wpAny_call (PySem.HandSPX.call_own F.excBase_ValueError (fun Y => PySem.HandSPX.refsVE_contains Y bm hbm) (I.kIn _ _ hC) (PySem.W.looks_findIn I.kIn iC) (fun self => PySem.W.bind_fn I.kIn self tI) (Nat.zero_le _)
    (codeAny_mono (F1.run _ X.stack _ _ ⟨[Value.ref (hp.objs.size + 1)], []⟩ [Value.ref (hp.objs.size + 1)] _ _ (fun _ _ _ => False) (hr.make C [] []) (I2.env0.make C [] []) (hb _ [Value.ref (hp.objs.size + 1)] I2.kIn hl) (show Vals [V.ref (hp.objs.size + 1)] [Value.ref (hp.objs.size + 1)] from .cons rfl .nil) hq) fun r s' hs => ?_))
  match r, hs with
  | .error er, hs => exact hx pins σ _ _ er s' I2 hs
  | .ok (.ret u), hs =>
    obtain ⟨v, H2, os2, bare2, un2, hok2, rv, ev, d, fs, ea, ed, hd1, q2⟩ := hs
    subst ev
    obtain ⟨h2, g2, d2, t2, os'⟩ := s'
    exact ⟨rv, mk_end (raises_own T.exC T.tyC) I up stay un2 hok2 os2 bare2 ea ed hd1 q2⟩
  | .ok .next, hs => exact False.elim hs
  | .ok .brk, hs => exact False.elim hs
  | .ok .cont, hs => exact False.elim hs
end
/-! ### lists turned round, places of items -/
theorem mt_reverseL {X : Cx} : MtM X "list.reverse" (fun x vs H Q => ∃ l xs, x = .ref l ∧ vs = [] ∧ H l = some (.lst xs) ∧ Q .non (upd H l (.lst xs.reverse))) := by
  intro pins s σ H x vs v us Q I rx rv h
  obtain ⟨l, xs, rfl, rfl, hH, q⟩ := h
  obtain rfl : v = Value.ref l := rx
  obtain rfl := rv.zero
  obtain ⟨z, its, n, r, hl, e⟩ := I.lstM hH
  have few : its.length ≤ sizeLine := by rw [← r.length]; omega
  refine call_meets F.slot_list_reverse ⟨_, e, rfl⟩ F.entry_list_reverse (F.args_list_reverse_1 _) (AutoSeq1.list_reverse_list_0 l its.toArray n (by simpa using few)) ⟨e, ?_⟩
  exact ⟨.non, _, I.lset (its' := its.reverse) (ys := xs.reverse) hH e (by simp) r.reverse (by rw [List.length_reverse]; omega), rfl, q⟩
theorem mindexK {X : Cx} (K : PySem.W.Frag) (h : X.K = K := by rfl) : MtR X "list.index" (rIndex K) := h ▸ mt_index
theorem mtupK {X : Cx} (K : PySem.W.Frag) (h : X.K = K := by rfl) : MtR X "tuple.index" (fun x xs H Q => ∃ p, ∃ ys : List Str, ∃ z j, x = .ref p ∧ xs = [.str z] ∧ SqT K H p (ys.map V.str) ∧ ys[j]? = some z ∧ (∀ m, m < j → ys[m]? ≠ some z) ∧ Q (.int (j : Nat)) H) := h ▸ mt_tup_index
/-! ### defs of own classes, ready to be called -/
structure CalIn (P : Program) (w : World) (K : PySem.W.Frag) (mg : Str → Option Value) (base : Heap) (CX : CXT) (k : Nat) (C f : Addr) (fd : FuncData) (ps : List Str) (sp : Sp) : Prop extends CalB P w K mg base CX k f fd ps sp where
  ic : InC K C f
structure CalSub (P : Program) (w : World) (K : PySem.W.Frag) (mg : Str → Option Value) (base : Heap) (CX : CXT) (k : Nat) (C f : Addr) (fd : FuncData) (ps : List Str) (sp : Sp) : Prop extends CalB P w K mg base CX k f fd ps sp where
  su : SubC K C f
structure CalIt (P : Program) (w : World) (K : PySem.W.Frag) (mg : Str → Option Value) (base : Heap) (CX : CXT) (k : Nat) (C f : Addr) (sp : Nat → Sp) : Prop where
  F : FnS P w K mg base CX k f sp
  oi : OitC K C f
end El

set_option Elab.async false
set_option linter.all false
set_option maxRecDepth 100000
set_option maxHeartbeats 4000000
/-! Own words: an own exception whose __init__ takes nothing and keeps nothing. -/
namespace El
open PySem PySem.Spec PyProof.Rows L2 NdefX
/-- its __init__ -/
def spE0 (C : Addr) : Sp := fun vs H Q _ => ∃ a : Addr, vs = [.ref a] ∧ H a = some (exo a C none) ∧ Q .non H
/-- the end of C(): the exception is let go -/
theorem mk_none {X : Cx} {pins : List (Addr × Obj)} {σ : L2.St} {H1 : Hp} {Q : XK} {hp hp2 h2 : Heap} {g1 g2 : Array GenState} {d1 d2 : Drawn} {t1 t2 : Nat} {os1 os2 : OsState} {a C : Addr} (T : Raises X (.ref C)) (I1 : Inv X pins σ H1 ⟨hp, g1, d1, t1, os1⟩)
    (ha : hp.objs.size ≤ a) (k : ∀ b o, hp.get? b = some o → hp2.get? b = some o) (un : Un (frs X.stack) [] (upd H1 a (exo a C none)) (upd H1 a (exo a C none)) hp2 h2) (hok : HOk X.prog X.w (upd H1 a (exo a C none)) h2) (ho : os2 = os1) (hb : AllBare g2)
    (q : Q (.ref C) none H1) : MkP X pins σ Q (.ref a) ⟨h2, g2, d2, t2, os2⟩ := by
  have ea : (upd H1 a (exo a C none)) a = some (exo a C none) := upd_same
  obtain ⟨t0, hoe⟩ := exo_at hok ea
  have na : H1 a = none := I1.hok.fresh ha
  obtain ⟨G, g1', g2'⟩ := restrict h2 fun b => decide (b ≠ a)
  have gk : ∀ {b}, b ≠ a → G.get? b = h2.get? b := fun {b} z => g1' b (decide_eq_true z)
  have ge : G.get? a = none := g2' a (by simp)
  have old : ∀ {b : Addr} {o : Obj}, hp.get? b = some o → b ≠ a := fun {b o} z => Nat.ne_of_lt (Nat.lt_of_lt_of_le (Heap.lt_size z) ha)
  have up : ∀ {b : Addr}, b ≠ a → H1 b = none → upd H1 a (exo a C none) b = none := fun {b} z n => by rw [upd_ne z]; exact n
  have U : Un (frs X.stack) [] H1 H1 hp G :=
    { keep := fun b o z n hf hx => (gk (old z)).trans (un.keep b o (k b o z) (up (old z) n) hf hx)
      slot := fun b o z n hf hx => by
        rw [gk (old z)]
        exact un.slot b o (k b o z) (up (old z) n) hf hx
      free := fun b o z n hx => n
      there := fun b o z hx => by
        rw [gk (old z)]
        exact un.there b o (k b o z) hx
      tups := fun b xs z => z
      frzs := fun b o v z => z
      tbls := fun b ps z => ⟨#[], by rw [Array.append_empty]; exact z⟩ }
  have own_ne : ∀ {b c : Addr}, upd H1 a (exo a C none) c = some (.own b) → c ≠ a := fun {b c} z => at_ne ea z exo_own
  have hok3 : HOk X.prog X.w H1 G := fun b o z => by
    have hba : b ≠ a := fun e => by rw [e, na] at z; cases z
    refine (hok b o (by rw [upd_ne hba]; exact z)).stay (fun c v hc y => ?_) (fun c hc => ?_) (fun c xs hc => ?_)
    · have hca : c ≠ a := hc.elim (fun e => e ▸ hba) fun e => own_ne e
      exact (gk hca).trans y
    · have := own_ne hc
      rwa [upd_ne this] at hc
    · have := at_ne ea hc exo_tup
      rwa [upd_ne this] at hc
  have J : Inv X pins σ H1 ⟨G, g2, d2, t2, os2⟩ := I1.call' (ch := []) ho U hok3 hb (fun b z => absurd z (by simp))
  refine ⟨a, _, _, ⟨G, g2, d2, t2, os2⟩, _, .ref C, none, rfl, J, fun b o z => ?_, ge, hoe, ⟨rfl, rfl⟩, rfl, rfl, na, rfl, hb, T, q⟩
  by_cases hba : b = a
  · rw [hba, ge] at z
    cases z
  · exact (gk hba).symm.trans z
section
variable {X : Cx} {p pos : Pos}
theorem pmk_none {CX : CXT} {x : Str} {C fI : Addr} {k : Nat} {fd : FuncData} {ps : List Str} (T : OexC X.K C) (iC : PySem.W.findIn X.K (.ref C) "__init__" = some (some (.ref fI))) (tI : PySem.W.typeIn X.K (.ref fI) = some (.type "function"))
    (F1 : FnOk X.prog X.w X.K X.mg X.base CX k fI fd ps (spE0 C)) (hr : Room (k + 1) X.A) (hb : Binds X.K fd ps []) (hx : Passes CX X (fun _ _ _ => False)) (hg : Gl X x) (hm : X.mg x = some (.ref C)) (hdb : (x == ("__debug__" : Str)) = false := by decide) :
    PMk X (.Call (.Name x p) [] [] pos) (fun _ H Q => Q (.ref C) none H) := by
  intro pins s σ H Q I h
  obtain ⟨nm, q, N, bs, bm, sn, sub, ab, col, dd, k0, k1, k2, k3, k5, hC, hbm⟩ := T.cls
  refine wpAny_Call_Name_kw (ld_glob I hg hm (PySem.W.callWith_K0 I.kIn T.kC ?_) hdb)
  obtain ⟨hp, g, dr, tk, os⟩ := s
  have up : hp.objs.size ≤ hp.objs.size + 1 := Nat.le_succ _
  have hq : spE0 C [V.ref (hp.objs.size + 1)] (upd H (hp.objs.size + 1) (exo (hp.objs.size + 1) C none)) (fun v H2 => v = .non ∧ H2 = upd H (hp.objs.size + 1) (exo (hp.objs.size + 1) C none)) (fun _ _ _ => False) := ⟨_, rfl, upd_same, rfl, rfl⟩
  have stay : ∀ b o, hp.get? b = some o → ((hp.push (PySem.W.kdv_tup [])).push (PySem.HandSPX.excO C hp.objs.size)).get? b = some o := fun b o e => Heap.get?_push_of_some _ (Heap.get?_push_of_some _ e)
  have there : ((hp.push (PySem.W.kdv_tup [])).push (PySem.HandSPX.excO C hp.objs.size)).get? (hp.objs.size + 1) = some (PySem.HandSPX.excO C hp.objs.size) := by heap_get
  have I2 := I.laid (t' := tk) (a := hp.objs.size + 1) (o := exo (hp.objs.size + 1) C none) (h' := (hp.push (PySem.W.kdv_tup [])).push (PySem.HandSPX.excO C hp.objs.size)) stay up (exo_ok there)
  have hl : ([Value.ref (hp.objs.size + 1)] ++ []).length = ps.length := F1.len _ _ _ _ hq
  refine wpAny_call (PySem.HandSPX.call_own F.excBase_ValueError (fun Y => PySem.HandSPX.refsVE_contains Y bm hbm) (I.kIn _ _ hC) (PySem.W.looks_findIn I.kIn iC) (fun self => PySem.W.bind_fn I.kIn self tI) (Nat.zero_le _)
    (codeAny_mono (F1.run _ X.stack _ _ ⟨[Value.ref (hp.objs.size + 1)], []⟩ [Value.ref (hp.objs.size + 1)] _ _ (fun _ _ _ => False) (hr.make C [] []) (I2.env0.make C [] []) (hb _ [Value.ref (hp.objs.size + 1)] I2.kIn hl) (show Vals [V.ref (hp.objs.size + 1)] [Value.ref (hp.objs.size + 1)] from .cons rfl .nil) hq) fun r s' hs => ?_))
  match r, hs with
  | .error er, hs => exact hx pins σ _ _ er s' I2 hs
  | .ok (.ret u), hs =>
    obtain ⟨v, H2, os2, bare2, un2, hok2, rv, ev, eH⟩ := hs
    subst ev eH
    obtain ⟨h2, g2, d2, t2, os'⟩ := s'
    exact ⟨rv, mk_none (raises_own T.exC T.tyC) I up stay un2 hok2 os2 bare2 h⟩
  | .ok .next, hs => exact False.elim hs
  | .ok .brk, hs => exact False.elim hs
  | .ok .cont, hs => exact False.elim hs
end
/-- the class, its __init__, ready for a raise -/
structure CalE0 (P : Program) (w : World) (K : PySem.W.Frag) (mg : Str → Option Value) (base : Heap) (k : Nat) (x : Str) (C f : Addr) (fd : FuncData) (ps : List Str) : Prop where
  G : FnOk P w K mg base CX0 k f fd ps (spE0 C)
  b : Binds K fd ps []
  X : ExK K C f []
  m : mg x = some (.ref C)
/-- isinstance(e, c), e the exception that the suite holds, without a dict -/
theorem call_isN {X : Cx} {a : Addr} {oe : Obj} {cls : Value} {d : Option Addr} {pn : List (Addr × Obj)} (hz : Zc cls d oe) (hf : ∃ vs, oe.data = .fields vs) : CallR (X.suite a ((a, oe) :: pn)) (.builtin "isinstance") (fun xs H Q => rIsX X.K cls d a xs H Q ∨ ∃ (D : Addr) (c : V) (cv : Value) (b : Bool), xs = [.ref a, c] ∧ cls = .ref D ∧ d = none ∧ ExcC X.K D ∧ (∀ u, RelV c u → u = cv) ∧ PySem.W.kitOne X.K (.ref D) cv = some b ∧ Q (.bl b) H) := by
  intro pins s σ H xs us Q I r h
  rcases h with h | ⟨D, c, cv, b, rfl, rfl, rfl, C, hcv, e, q⟩
  · exact call_isX hz hf pins s σ H xs us Q I r h
  cases r with
  | cons rx rr =>
    cases rr with
    | cons rt rr =>
      cases rr
      cases rx
      have ec := hcv _ rt
      subst ec
      obtain ⟨hget, _⟩ := I.pin (a, oe) (List.mem_append.mpr (.inl List.mem_cons_self))
      obtain ⟨vs, hv⟩ := hf
      have J : PySem.W.InstAt s.heap a oe D none := ⟨hget, hz.1, by unfold PySem.W.notCls; rw [hv] <;> rfl, by rw [hz.2]; exact trivial⟩
      obtain ⟨cdD, hcD, _⟩ := PySem.W.any_some C.hd
      exact PySem.W.kia_one (PySem.W.kitx_exc (by rw [hcD]; rfl) C.hg C.hk C.hs C.ha C.hn C.ht C.hm) I.kIn J e (fun z => nomatch z) fun tk => ⟨.bl b, H, I.kept (t' := tk) fun _ _ z => z, rfl, q⟩
end El

set_option Elab.async false
set_option linter.all false
set_option maxRecDepth 100000
set_option maxHeartbeats 4000000
/-! Own words: comprehensions with two clauses, walk in walk. -/
namespace El
open PySem PySem.Spec PyProof.Rows L2
/-- the second clause's loop, from which Nx is reached -/
def Inner2 (J1 : It) (g1 : TG) (tt1 : TT) (te : TE) (σ2 : L2.St) (vs1 : List Nat) (D : Addr) (Nx : Hp → Prop) (H4 : Hp) : Prop :=
  ∃ W1 : Nat → Nat → Hp → Prop, (∃ m, W1 0 m H4) ∧ ∀ j k H, W1 j k H → (J1.stop j H ∧ Nx H) ∨ (J1.go j H ∧ ∃ Nx1 : Hp → Prop, (∀ H', Nx1 H' → ∃ k', k' < k ∧ W1 (j + 1) k' H') ∧ ∀ x H', J1.yld j H x H' → g1 x (wipe σ2 vs1) H' fun σ3 H5 => wipe σ3 vs1 = wipe σ2 vs1 ∧ tt1 σ3 H5 fun b H6 =>
    if b = true then te σ3 H6 fun y H7 => ∃ acc, H7 D = some (.lst acc) ∧ acc.length < sizeLine ∧ Nx1 (upd H7 D (.lst (acc ++ [y]))) else Nx1 H6)
theorem inner2_it {J1 : It} {n : Nat} {G : Hp → Prop} {Y : Nat → Hp → V → Hp → Prop} (w : Walk J1 n G Y) {g1 : TG} {tt1 : TT} {te : TE} {σ2 : L2.St} {vs1 : List Nat} {D : Addr} {Nx : Hp → Prop} {H4 : Hp} (Pv : Nat → Hp → Prop) (h0 : Pv 0 H4) (hG : ∀ j H, j ≤ n → Pv j H → G H)
    (hs : ∀ j x H H', j < n → Pv j H → Y j H x H' → g1 x (wipe σ2 vs1) H' fun σ3 H5 => wipe σ3 vs1 = wipe σ2 vs1 ∧ tt1 σ3 H5 fun b H6 =>
      if b = true then te σ3 H6 fun y H7 => ∃ acc, H7 D = some (.lst acc) ∧ acc.length < sizeLine ∧ Pv (j + 1) (upd H7 D (.lst (acc ++ [y]))) else Pv (j + 1) H6)
    (hd : ∀ H, Pv n H → Nx H) : Inner2 J1 g1 tt1 te σ2 vs1 D Nx H4 := by
  refine ⟨fun j k H => k = n - j ∧ j ≤ n ∧ Pv j H, ⟨n, by simp, Nat.zero_le _, h0⟩, ?_⟩
  rintro j k H ⟨rfl, hj, p⟩
  have q := hG j H hj p
  by_cases e : j < n
  · exact .inr ⟨w.goes j H e q, Pv (j + 1), fun H' p' => ⟨n - (j + 1), by omega, rfl, e, p'⟩, fun x H' y => hs j x H H' e p (w.yields j H x H' e q y)⟩
  · obtain rfl : j = n := by omega
    exact .inl ⟨w.stops H q, hd H p⟩
theorem lc2_it {J : It} {n : Nat} {G : Hp → Prop} {Y : Nat → Hp → V → Hp → Prop} (w : Walk J n G Y) {g : TG} {tt : TT} {wi1 : TI} {g1 : TG} {tt1 : TT} {te : TE} {vs vs1 : List Nat} {σ : L2.St} {H1 : Hp} {D : Addr} {Qd : Hp → Prop} (Pv : Nat → Hp → Prop) (h0 : Pv 0 (upd H1 D (.lst []))) (hG : ∀ i H, i ≤ n → Pv i H → G H)
    (hs : ∀ i x H H', i < n → Pv i H → Y i H x H' → g x (wipe σ vs) H' fun σ2 H2 => wipe σ2 vs = wipe σ vs ∧ tt σ2 H2 fun b H3 =>
      if b = true then wi1 σ2 H3 fun J1 H4 => Inner2 J1 g1 tt1 te σ2 vs1 D (Pv (i + 1)) H4 else Pv (i + 1) H3)
    (hd : ∀ H, Pv n H → Qd H) :
    ∃ W : Nat → Nat → Hp → Prop, (∃ m, W 0 m (upd H1 D (.lst []))) ∧ ∀ i m H, W i m H →
      (J.stop i H ∧ Qd H) ∨ (J.go i H ∧ ∃ Nx : Hp → Prop, (∀ H', Nx H' → ∃ m', m' < m ∧ W (i + 1) m' H') ∧ ∀ x H', J.yld i H x H' → g x (wipe σ vs) H' fun σ2 H2 => wipe σ2 vs = wipe σ vs ∧ tt σ2 H2 fun b H3 =>
        if b = true then wi1 σ2 H3 fun J1 H4 => Inner2 J1 g1 tt1 te σ2 vs1 D Nx H4 else Nx H3) := by
  refine ⟨fun i m H => m = n - i ∧ i ≤ n ∧ Pv i H, ⟨n, by simp, Nat.zero_le _, h0⟩, ?_⟩
  rintro i m H ⟨rfl, hi, p⟩
  have q := hG i H hi p
  by_cases e : i < n
  · exact .inr ⟨w.goes i H e q, Pv (i + 1), fun H' p' => ⟨n - (i + 1), by omega, rfl, e, p'⟩, fun x H' y => hs i x H H' e p (w.yields i H x H' e q y)⟩
  · obtain rfl : i = n := by omega
    exact .inl ⟨w.stops H q, hd H p⟩
/-- tuple(p), p a list or a tuple: a tuple of the same items stands behind it -/
theorem tupS {X : Cx} : CallR X (.type "tuple") (fun xs H Q => ∃ p ys, xs = [.ref p] ∧ (H p = some (.lst ys) ∨ H p = some (.tup ys)) ∧ ∀ H1 t, (∀ b o, H b = some o → H1 b = some o) → H1 t = some (.tup ys) → Q (.ref t) H1) := cwk call_tuple_of fun xs H Q q => by
  obtain ⟨p, ys, rfl, hp, q⟩ := q
  rcases hp with hp | hp
  · refine ⟨p, ys, rfl, .inl ⟨SqL.of hp, fun l nl => q _ l (fun b o hb => ?_) upd_same⟩⟩
    rw [upd_ne (fun e => by rw [e, nl] at hb; cases hb)]
    exact hb
  · exact ⟨p, ys, rfl, .inr ⟨SqT.of hp, q H p (fun _ _ h => h) hp⟩⟩
end El

set_option Elab.async false
set_option linter.all false
set_option maxRecDepth 100000
set_option maxHeartbeats 4000000
/-! Own words: len(set(t)) of a tuple of tuples of texts. -/
namespace El
open PySem PySem.Spec PyProof.Rows L2

/-! ### the way of a search, said of places alone -/
abbrev stt (t : SetTable) (h : Int) (c : Nat) : SetTable.Probe := nth t.mask (runAt t.mask (SetTable.bits h % (t.mask + 1)) (SetTable.bits h)) c
theorem stt_on (t : SetTable) (h : Int) (c q : Nat) : nth t.mask (stt t h c) q = stt t h (c + q) := (nth_add t.mask c _ q).symm
theorem adv_clean {m : Nat} {p : SetTable.Probe} (h : p.dummy = none) : (adv m p).dummy = none := by
  unfold adv
  split
  · exact h
  · exact h
theorem nth_clean (m : Nat) : ∀ (n : Nat) (p : SetTable.Probe), p.dummy = none → (nth m p n).dummy = none
  | 0, _, h => h
  | n + 1, p, h => nth_clean m n (adv m p) (adv_clean h)
theorem probe_at {t : SetTable} {rows : List Int} (T : TabOk t rows) (at_ : Nat → Int) (h : Int) {K c : Nat} (kf : K < 10 * SetTable.turns t.mask) (kn : way t.mask h K ∉ t.place.toList) (kb : ∀ q, q < K → way t.mask h q ∈ t.place.toList) (hc : c ≤ K) :
    (∃ q i, c ≤ q ∧ q < K ∧ t.place.toList[i]? = some (way t.mask h q) ∧ at_ i = h ∧ (∀ q' i', c ≤ q' → q' < q → t.place.toList[i']? = some (way t.mask h q') → at_ i' ≠ h) ∧ t.probe at_ h (stt t h c) = some (.candidate (way t.mask h q) i (stt t h (q + 1)))) ∨
    ((∀ q' i', c ≤ q' → q' < K → t.place.toList[i']? = some (way t.mask h q') → at_ i' ≠ h) ∧ t.probe at_ h (stt t h c) = some (.empty (way t.mask h K) none)) := by
  have mv : ∀ q, (nth t.mask (stt t h c) q).j = way t.mask h (c + q) := fun q => congrArg SetTable.Probe.j (stt_on t h c q)
  have back : ∀ q', c ≤ q' → way t.mask h q' = (nth t.mask (stt t h c) (q' - c)).j := fun q' hq => by
    rw [mv]
    exact congrArg (way t.mask h) (by omega)
  rcases go_spec t T.ris T.dm at_ h (10 * SetTable.turns t.mask) (K - c) (stt t h c) (nth_clean _ _ _ rfl) (by omega) (fun q hq => by rw [mv]; exact kb _ (by omega)) (by rw [← back K hc]; exact kn) with ⟨q, i, l, e1, e2, free, e3⟩ | ⟨free, e3⟩
  · refine .inl ⟨c + q, i, Nat.le_add_right _ _, by omega, by rw [← mv]; exact e1, e2, fun q' i' a b d => free (q' - c) i' (by omega) (by rw [← back q' a]; exact d), ?_⟩
    rw [mv, stt_on] at e3
    exact e3
  · refine .inr ⟨fun q' i' a b d => free (q' - c) i' (by omega) (by rw [← back q' a]; exact d), ?_⟩
    rw [← back K hc] at e3
    exact e3

section
variable {P : Program} {w : World} {A : Around} {E : Value → Shared → Prop} {s : Shared}
/-- the tuple at b holds the texts k -/
abbrev Tk (P : Program) (w : World) (h : Heap) (k : List Str) (b : Addr) : Prop := IsTupleKey (PySem.strKind P w) h k b
abbrev hs (P : Program) (w : World) (k : List Str) : Int := tupleKeyHash (PySem.strKind P w) k
def Txs (vs : List Value) : Prop := ∀ v ∈ vs, ∃ x t, v = Value.str x t
theorem Txs.of {k : List Str} {vs : List Value} (h : ItemsAre (PySem.strKind P w) k vs) : Txs vs := by
  induction h with
  | nil => exact fun _ z => nomatch z
  | cons one _ more =>
    intro v hv
    cases hv with
    | head => obtain ⟨t, e⟩ := Value.isStrOf_shape one; exact ⟨_, t, e⟩
    | tail _ hv => exact more v hv
theorem Txs.tl {v : Value} {vs : List Value} (h : Txs (v :: vs)) : Txs vs := fun u hu => h u (List.mem_cons_of_mem _ hu)
theorem class_tx (n : Nat) (x : Str) (t : Tok) : ofAClassStatement n (.str x t) = pure false := by cases n <;> rfl
theorem byval_tx (n : Nat) (x : Str) (t : Tok) : hashByValue n (.str x t) = pure false := by cases n <;> simp [hashByValue]
theorem class_tk {k : List Str} {b : Addr} {Q : Bool → Shared → Prop} (hk : Tk P w s.heap k b) (q : Q false s) : wpAny (model P w) A (ofAClassStatement 8 (.ref b)) Q E s := by
  have ty := hk.typeIs
  obtain ⟨ob, its, c, e1, _, e2, e3⟩ := hk
  have tx := Txs.of e3
  unfold ofAClassStatement
  refine wpAny_bind (wpAny_typeOf ty ?_)
  have same : (("tuple" : String) == "tuple") = true := by decide
  simp only [same, if_true, Bool.not_true, Bool.false_eq_true, if_false]
  try refine wpAny_bind (wpAny_pure ?_)
  try simp only [Bool.not_true, Bool.false_eq_true, if_false]
  refine wpAny_bind (m := seqItems? (.ref b)) (wpAny_seqItems e1 e2 ?_)
  refine wpAny_bind ?_
  show wpAny _ _ (forIn its _ _) _ _ s
  rw [← Array.forIn_toList]
  refine wpAny_forIn_list _ (fun left st s1 => Txs left ∧ st.1 = none ∧ s1 = s) _ (fun v left st s1 => ?_) (fun st s1 => ?_) _ _ ⟨tx, rfl, rfl⟩
  · rintro ⟨tx, e, rfl⟩
    obtain ⟨x, t, rfl⟩ := tx v List.mem_cons_self
    rw [class_tx]
    refine wpAny_bind (wpAny_pure ?_)
    simp only [Bool.false_eq_true, if_false]
    exact wpAny_pure ⟨tx.tl, rfl, rfl⟩
  · obtain ⟨u1, u2⟩ := st
    rintro ⟨_, e, rfl⟩
    cases (show u1 = none from e)
    exact wpAny_pure q
theorem byval_tk {k : List Str} {b : Addr} {Q : Bool → Shared → Prop} (hk : Tk P w s.heap k b) (q : ∀ c, Q c s) : wpAny (model P w) A (hashByValue 8 (.ref b)) Q E s := by
  have ty := hk.typeIs
  obtain ⟨ob, its, c, e1, _, e2, e3⟩ := hk
  have tx := Txs.of e3
  unfold hashByValue
  refine wpAny_bind (wpAny_specialOf ty PySem.F.slot_tuple_hash.lookup ?_)
  refine wpAny_bind (m := seqItems? (.ref b)) (wpAny_seqItems e1 e2 ?_)
  refine wpAny_bind ?_
  show wpAny _ _ (forIn its _ _) _ _ s
  rw [← Array.forIn_toList]
  refine wpAny_forIn_list _ (fun left st s1 => Txs left ∧ s1 = s) _ (fun v left st s1 => ?_) (fun st s1 => ?_) _ _ ⟨tx, rfl⟩
  · rintro ⟨tx, rfl⟩
    obtain ⟨x, t, rfl⟩ := tx v List.mem_cons_self
    rw [byval_tx]
    refine wpAny_bind (wpAny_pure ?_)
    simp only [Bool.not_false, if_true]
    exact wpAny_pure (wpAny_pure (q _))
  · obtain ⟨u1, u2⟩ := st
    rintro ⟨_, rfl⟩
    cases u1 with
    | none => exact wpAny_pure (q _)
    | some c => exact wpAny_pure (q _)
def Tks (P : Program) (w : World) (h : Heap) (vs : List Value) : Prop := ∀ v ∈ vs, ∃ k b, v = Value.ref b ∧ Tk P w h k b
theorem seen_tk {k : List Str} {b : Addr} {Q : Bool → Shared → Prop} (hk : Tk P w s.heap k b) {vs : List Value} (hv : Tks P w s.heap vs) (q : Q false s) : wpAny (model P w) A (searchCouldBeSeen (.ref b) vs) Q E s := by
  unfold searchCouldBeSeen
  refine wpAny_bind (wpAny_forIn_list _ (fun left st s1 => Tks P w s.heap left ∧ st.1 = none ∧ s1 = s) _ (fun v left st s1 => ?_) (fun st s1 => ?_) _ _ ⟨hv, rfl, rfl⟩)
  · rintro ⟨hv, e, rfl⟩
    obtain ⟨k2, c, rfl, hc⟩ := hv v List.mem_cons_self
    have fin : Tks P w s1.heap left ∧ (none : Option Bool) = none ∧ s1 = s1 := ⟨fun u hu => hv u (List.mem_cons_of_mem _ hu), rfl, rfl⟩
    dsimp only
    by_cases z : (b == c || (carriedByValue (.ref b) && carriedByValue (.ref c))) = true
    · exact wp_if_pos z (wpAny_pure fin)
    · refine wp_if_neg z (wpAny_bind (wpAny_eqIsQuiet_tuple hk ?_))
      simp only [Bool.not_true, Bool.false_eq_true, if_false]
      refine wpAny_bind (wpAny_eqIsQuiet_tuple hc ?_)
      simp only [Bool.not_true, Bool.false_eq_true, if_false]
      refine wpAny_bind (class_tk hk ?_)
      simp only [Bool.false_eq_true, if_false]
      refine wpAny_bind (class_tk hc ?_)
      simp only [Bool.false_eq_true, if_false]
      exact wpAny_pure fin
  · obtain ⟨u1, u2⟩ := st
    rintro ⟨_, e, rfl⟩
    cases (show u1 = none from e)
    exact wpAny_pure q

/-! ### a set of tuples of texts -/
def row (P : Program) (w : World) (p : Addr × List Str) : Int × Value := (hs P w p.2, Value.ref p.1)
structure Bag (P : Program) (w : World) (h : Heap) (a : Addr) (L : List (Addr × List Str)) (es : Array (Int × Value)) (ep : Nat) (t : SetTable) : Prop where
  ob : ∃ o, h.get? a = some o ∧ o.ExactSet ∧ o.data = .set es ep t
  rows : es.toList = L.map (row P w)
  tab : TabOk t (L.map fun p => hs P w p.2)
  led : w.params.followText "set-order" = true ∨ t.led = true
  room : L.length * 5 < t.mask * 3
  few : L.length < 64
  tk : ∀ p ∈ L, Tk P w h p.2 p.1
  nd : (L.map (·.2)).Nodup
variable {a : Addr} {L : List (Addr × List Str)} {es : Array (Int × Value)} {ep : Nat} {t : SetTable}
theorem size_rows (e : es.toList = L.map (row P w)) : es.size = L.length := by
  rw [← Array.length_toList, e, List.length_map]
theorem fits_of (e : es.toList = L.map (row P w)) (z : t.place.size = L.length) (d : t.dummies = #[]) (l : L.length ≤ t.mask) : t.fits es.size = true := by
  unfold SetTable.fits SetTable.fill
  rw [d, size_rows e, z, Bool.and_eq_true, beq_iff_eq, decide_eq_true_eq]
  exact ⟨rfl, l⟩
theorem Bag.szp (B : Bag P w s.heap a L es ep t) : t.place.size = L.length := by rw [B.tab.sz, List.length_map]
theorem Bag.lem (B : Bag P w s.heap a L es ep t) : L.length ≤ t.mask := by have := B.room; omega
theorem Bag.fits (B : Bag P w s.heap a L es ep t) : t.fits es.size = true := fits_of B.rows B.szp B.tab.dm B.lem
theorem row_at (e : es.toList = L.map (row P w)) {i : Nat} {p : Addr × List Str} (h : L[i]? = some p) : es[i]? = some (row P w p) := by
  rw [← Array.getElem?_toList, e, List.getElem?_map, h]
  rfl
/-- the search for k from step c of its way on -/
theorem seek (B : Bag P w s.heap a L es ep t) {x : Addr} {k : List Str} (hx : Tk P w s.heap k x) (hu : A.units < cLine) {K : Nat} (kf : K < 10 * SetTable.turns t.mask) (kn : way t.mask (hs P w k) K ∉ t.place.toList) (kb : ∀ q, q < K → way t.mask (hs P w k) q ∈ t.place.toList)
    {Q : SetFound → Shared → Prop} (yes : k ∈ L.map (·.2) → Q (.there none) s) (no : k ∉ L.map (·.2) → Q (.free (way t.mask (hs P w k) K) false) s) :
    ∀ (f c : Nat) (from_ : Option SetTable.Probe), from_.getD (t.probeStart (hs P w k)) = stt t (hs P w k) c → c ≤ K → K - c < f →
      (∀ (i : Nat) (p : Addr × List Str), L[i]? = some p → p.2 = k → ∃ q, c ≤ q ∧ q < K ∧ t.place.toList[i]? = some (way t.mask (hs P w k) q)) → wpAny (model P w) A (setSearchFrom a (.ref x) (hs P w k) true f from_) Q E s := by
  intro f
  induction f with
  | zero => exact fun c _ _ _ h => absurd h (Nat.not_lt_zero _)
  | succ f ih =>
    intro c from_ ef hc hf ahead
    obtain ⟨o, e1, e2, e3⟩ := B.ob
    have ld : ∀ {R : Array (Int × Value) × Nat × SetTable → Shared → Prop}, R (es, ep, t) s → wpAny (model P w) A (setState a) R E s := fun r => wpAny_setState_of e1 e3 B.fits r
    rw [setSearchFrom_succ]
    refine wpAny_bind (ld ?_)
    dsimp only
    refine wp_if_neg (by unfold SetTable.gaveWay; rw [mask_odd B.tab.mok]; decide) ?_
    try refine wpAny_bind (wpAny_pure ?_)
    have hat : ∀ (i : Nat) (p : Addr × List Str), L[i]? = some p → (fun i : Nat => (es[i]?.map (·.1)).getD 0) i = hs P w p.2 := fun i p hp => by
      show (es[i]?.map (·.1)).getD 0 = _
      rw [row_at B.rows hp]
      rfl
    rw [ef]
    rcases probe_at B.tab (fun i : Nat => (es[i]?.map (·.1)).getD 0) (hs P w k) kf kn kb hc with ⟨q, i, l1, l2, hi, hh, clear, pr⟩ | ⟨clear, pr⟩
    · rw [pr]
      dsimp only
      have il : i < L.length := by
        have h1 := (List.getElem?_eq_some_iff.mp hi).1
        rw [Array.length_toList, B.szp] at h1
        exact h1
      obtain ⟨p, hp⟩ : ∃ p, L[i]? = some p := ⟨_, List.getElem?_eq_getElem il⟩
      have pm := List.mem_of_getElem? hp
      have go : wpAny (model P w) A (searchRest a (.ref x) (hs P w k) true f es t (way t.mask (hs P w k) q) i (stt t (hs P w k) (q + 1))) Q E s := by
        unfold searchRest
        rw [row_at B.rows hp]
        dsimp only [row]
        refine wpAny_bind (wpAny_holding (wpAny_eqBool_tuple hu (B.tk p pm) hx (wpAny_bind (ld ?_))))
        dsimp only
        by_cases hk : p.2 = k
        · exact wp_if_pos (by simp [hk]) (wpAny_pure (yes (List.mem_map.mpr ⟨p, pm, hk⟩)))
        refine wp_if_neg (by simp [hk]) ?_
        try refine wpAny_bind (wpAny_pure ?_)
        rw [sameMem]
        have live : t.slot (way t.mask (hs P w k) q) = .live i := slot_live B.tab.ris hi
        simp only [if_true, live, row_at B.rows hp, row]
        refine wpAny_bind (wpAny_isSame_ref_self (wpAny_bind (wpAny_pure ?_)))
        simp only [if_true]
        refine wp_if_neg (by simp [hk]) (ih (q + 1) _ rfl l2 (by omega) fun i0 p0 h0 k0 => ?_)
        obtain ⟨q0, a1, a2, a3⟩ := ahead i0 p0 h0 k0
        refine ⟨q0, Nat.lt_of_le_of_ne (Nat.le_of_not_lt fun z => clear q0 i0 a1 z a3 ((hat i0 p0 h0).trans (congrArg (hs P w) k0))) fun z => hk ?_, a2, a3⟩
        have s0 := slot_live B.tab.ris a3
        rw [← z, live] at s0
        cases s0
        cases hp.symm.trans h0
        exact k0
      by_cases hl : t.led = true
      · refine wp_if_neg (by simp [hl]) ?_
        try refine wpAny_bind (wpAny_pure ?_)
        exact go
      · refine wp_if_pos (by simp [hl]) (wpAny_bind (seen_tk hx (fun v hv => ?_) ?_))
        · obtain ⟨r, hr, rfl⟩ := List.mem_map.mp hv
          have hr : r ∈ es := (by simpa using hr : r ∈ es ∧ r.1 = hs P w k).1
          have hr : r ∈ es.toList := by simpa using hr
          rw [B.rows] at hr
          obtain ⟨p2, m2, rfl⟩ := List.mem_map.mp hr
          exact ⟨p2.2, p2.1, rfl, B.tk p2 m2⟩
        · refine wp_if_neg (by decide) ?_
          try refine wpAny_bind (wpAny_pure ?_)
          exact go
    · rw [pr]
      refine wpAny_pure (no fun hm => ?_)
      obtain ⟨p0, m0, k0⟩ := List.mem_map.mp hm
      obtain ⟨i0, l0, h0⟩ := List.getElem_of_mem m0
      have h0 : L[i0]? = some p0 := by rw [List.getElem?_eq_getElem l0, h0]
      obtain ⟨q0, a1, a2, a3⟩ := ahead i0 p0 h0 k0
      exact clear q0 i0 a1 a2 a3 ((hat i0 p0 h0).trans (congrArg (hs P w) k0))
theorem sought (B : Bag P w s.heap a L es ep t) {x : Addr} {k : List Str} (hx : Tk P w s.heap k x) (hu : A.units < cLine) {Q : SetFound → Shared → Prop} (yes : k ∈ L.map (·.2) → Q (.there none) s)
    (no : ∀ K, k ∉ L.map (·.2) → way t.mask (hs P w k) K ∉ t.place.toList → (∀ q, q < K → way t.mask (hs P w k) q ∈ t.place.toList) → Q (.free (way t.mask (hs P w k) K) false) s) :
    wpAny (model P w) A (setSearch a (.ref x) (hs P w k) true) Q E s := by
  obtain ⟨K, kf, kn, kb⟩ := B.tab.first (by rw [List.length_map]; exact B.lem) (hs P w k)
  have small : K < 100000 := by
    have : SetTable.turns t.mask ≤ 142 := by
      unfold SetTable.turns
      rcases B.tab.mok with e | e | e <;> omega
    omega
  refine seek B hx hu kf kn kb yes (fun n => no K n kn kb) 100000 0 none rfl (Nat.zero_le _) small fun i p hp hk => ?_
  have il : i < t.place.toList.length := by
    rw [Array.length_toList, B.szp]
    exact (List.getElem?_eq_some_iff.mp hp).1
  obtain ⟨q, l, e⟩ := B.tab.before (h := hs P w k) kn (by rw [List.getElem?_map, hp, ← hk]; rfl) (List.getElem?_eq_getElem il)
  exact ⟨q, Nat.zero_le _, l, by rw [e]; exact List.getElem?_eq_getElem il⟩

/-! ### the table laid anew -/
theorem all_of_range {α : Type} : ∀ L : List α, (List.range L.length).filterMap (fun i => L[i]?) = L
  | [] => rfl
  | x :: r => by
    rw [List.length_cons, List.range_succ_eq_map, List.filterMap_cons_some (f := fun i => (x :: r)[i]?) (b := x) rfl, List.filterMap_map]
    exact congrArg (x :: ·) (all_of_range r)
theorem picked {f : Addr × List Str → Int} (g : Nat → Int) (hg : ∀ (i : Nat) (p : Addr × List Str), L[i]? = some p → g i = f p) : ∀ l : List Nat, (∀ i ∈ l, i < L.length) → (l.filterMap fun i => L[i]?).map f = l.map g
  | [], _ => rfl
  | i :: l, h => by
    obtain ⟨p, e⟩ : ∃ p, L[i]? = some p := ⟨_, List.getElem?_eq_getElem (h i List.mem_cons_self)⟩
    rw [List.filterMap_cons_some e, List.map_cons, List.map_cons, picked g hg l fun j hj => h j (List.mem_cons_of_mem _ hj), hg i p e]
theorem tk_but {h h' : Heap} {k : List Str} {b : Addr} {o : Obj} (z : Tk P w h k b) (ho : h.get? a = some o) (hd : o.data = .set es ep t) (sb : Heap.SameBut a h h') : Tk P w h' k b := by
  obtain ⟨o2, its, c, e1, e2, e3, e4⟩ := z
  refine ⟨o2, its, c, (sb.2 b fun e => ?_).trans e1, e2, e3, e4⟩
  cases (e ▸ e1 : h.get? a = some o2).symm.trans ho
  rw [hd] at e3
  cases e3
theorem relaid_at {o : Obj} (ho : s.heap.get? a = some o) (hx : o.ExactSet) (hd : o.data = .set es ep t) (rows : es.toList = L.map (row P w)) (zp : t.place.size = L.length) (dm : t.dummies = #[]) (lm : L.length ≤ t.mask)
    (led : w.params.followText "set-order" = true ∨ t.led = true) (few : L.length < 64) (tk : ∀ p ∈ L, Tk P w s.heap p.2 p.1) (nd : (L.map (·.2)).Nodup) {wanted M : Nat} (hw : SetTable.sizeAbove wanted = M + 1) (mok : MaskOk M) (room : L.length * 5 < M * 3)
    {Q : Unit → Shared → Prop} (q : ∀ h' L' es' ep' t', Heap.SameBut a s.heap h' → Bag P w h' a L' es' ep' t' → L'.Perm L → Q () { s with heap := h' }) : wpAny (model P w) A (setRelay a wanted) Q E s := by
  have zs := size_rows rows
  have M128 : M + 1 ≤ 128 := by rcases mok with e | e | e <;> omega
  obtain ⟨t2, order, e1, pm, T, em, el, _, _⟩ := relaid_ok t (hs := es.map (·.1)) (wanted := wanted) (by rw [hw]; rfl) mok (by rw [Array.size_map, zs]; omega)
  rw [Array.size_map, zs] at pm
  have below : ∀ i ∈ order.toList, i < L.length := fun i hi => List.mem_range.mp (pm.mem_iff.mp hi)
  have same : ∀ i : Nat, es[i]? = (L[i]?).map (row P w) := fun i => by rw [← Array.getElem?_toList, rows, List.getElem?_map]
  have rows2 : (order.filterMap (es[·]?)).toList = (order.toList.filterMap fun i => L[i]?).map (row P w) := by
    rw [Array.toList_filterMap, List.map_filterMap]
    exact congrArg (fun f => List.filterMap f order.toList) (funext same)
  have pl : (order.toList.filterMap fun i => L[i]?).Perm L := by
    have z := pm.filterMap fun i => L[i]?
    rw [all_of_range] at z
    exact z
  rw [← picked (L := L) (f := fun p => hs P w p.2) _ (fun i p hp => by
    have z : (es.map (·.1))[i]? = some (hs P w p.2) := by
      rw [Array.getElem?_map, same, hp]
      rfl
    rw [Array.getD_eq_getD_getElem?, z]
    rfl) order.toList below] at T
  generalize (order.toList.filterMap fun i => L[i]?) = L2 at rows2 pl T
  have z2 : (order.filterMap (es[·]?)).size = es.size := by rw [size_rows rows2, zs, pl.length_eq]
  rw [setRelay_eq]
  refine wpAny_bind (wpAny_setState_of ho hd (fits_of rows zp dm lm) ?_)
  dsimp only
  refine wp_if_neg (by rw [hw, sizeLine_eq]; omega) ?_
  try refine wpAny_bind (wpAny_pure ?_)
  rw [e1]
  refine wpAny_bind (wp_if_neg (by rw [z2]; simp) ?_)
  try refine wpAny_bind (wpAny_pure ?_)
  refine wpAny_pure (wpAny_storeSet_of ho hd ?_ (by rw [z2, zs, sizeLine_eq]; omega))
  have sb : Heap.SameBut a s.heap (s.heap.update a (Obj.putSet (order.filterMap (es[·]?)) t2)) := Heap.SameBut.update ..
  refine q _ L2 _ (ep + 1) t2 sb ⟨⟨_, store_at ho hd, ⟨hx.1, hx.2.1, hx.2.2⟩, rfl⟩, rows2, T, by rw [el]; exact led, by rw [pl.length_eq, em]; exact room, by rw [pl.length_eq]; exact few, fun p hp => tk_but (tk p (pl.mem_iff.mp hp)) ho hd sb, ?_⟩ pl
  exact (pl.map (·.2)).nodup_iff.mpr nd

/-! ### one more -/
theorem tab_plain {t : SetTable} {rows : List Int} (T : TabOk t rows) (b : Bool) : TabOk { t with plain := b } rows := ⟨T.ris, T.dm, T.sz, T.mok, T.bd, T.reach⟩
theorem added (B : Bag P w s.heap a L es ep t) {x : Addr} {k : List Str} (hx : Tk P w s.heap k x) (hu : A.units < cLine) (few : L.length + 1 < 64) {Q : Bool → Shared → Prop}
    (q : ∀ b h' L' es' ep' t', Heap.SameBut a s.heap h' → Bag P w h' a L' es' ep' t' → (k ∈ L.map (·.2) → L' = L) → (k ∉ L.map (·.2) → L'.Perm ((x, k) :: L)) → Q b { s with heap := h' }) :
    wpAny (model P w) A (setAddHashed a (.ref x) (hs P w k)) Q E s := by
  obtain ⟨o, e1, e2, e3⟩ := B.ob
  have ld : ∀ {R : Array (Int × Value) × Nat × SetTable → Shared → Prop}, R (es, ep, t) s → wpAny (model P w) A (setState a) R E s := fun r => wpAny_setState_of e1 e3 B.fits r
  unfold setAddHashed
  refine wpAny_holding ?_
  rw [show 100000 = 99999 + 1 from rfl, setAddHashedIn_succ]
  refine wpAny_bind (ld ?_)
  dsimp only
  refine wp_if_neg (by simp [byScan, Value.scannable]) ?_
  try refine wpAny_bind (wpAny_pure ?_)
  refine wpAny_bind (sought B hx hu (fun m => wpAny_pure (q false s.heap L es ep t (Heap.SameBut.refl a s.heap) B (fun _ => rfl) fun z => absurd m z)) fun K m kn kb => wpAny_bind (ld ?_))
  dsimp only
  obtain ⟨p1, p2, T, p4, p5, _, _, _, p9⟩ := B.tab.put kn kb
  rw [List.length_map] at p9
  have tf0 : ∀ b, ({ (t.put (way t.mask (hs P w k) K)).1 with plain := b } : SetTable).fill = L.length + 1 := fun b => p9
  generalize t.put (way t.mask (hs P w k) K) = pt at *
  obtain ⟨t1, at_⟩ := pt
  dsimp only at *
  subst p1
  have rows1 : (SetTable.insertAt es (SetTable.below t.place (way t.mask (hs P w k) K)) (hs P w k, Value.ref x)).toList = (L.take (SetTable.below t.place (way t.mask (hs P w k) K)) ++ (x, k) :: L.drop (SetTable.below t.place (way t.mask (hs P w k) K))).map (row P w) := by
    rw [SetTable.toList_insertAt, B.rows, List.map_append, List.map_cons, List.map_take, List.map_drop]
    rfl
  have T1 : TabOk t1 ((L.take (SetTable.below t.place (way t.mask (hs P w k) K)) ++ (x, k) :: L.drop (SetTable.below t.place (way t.mask (hs P w k) K))).map fun p => hs P w p.2) := by
    rw [List.map_append, List.map_cons, List.map_take, List.map_drop]
    exact T
  have pm := put_perm L (SetTable.below t.place (way t.mask (hs P w k) K)) (x, k)
  generalize SetTable.insertAt es (SetTable.below t.place (way t.mask (hs P w k) K)) (hs P w k, Value.ref x) = es1 at rows1 ⊢
  generalize L.take (SetTable.below t.place (way t.mask (hs P w k) K)) ++ (x, k) :: L.drop (SetTable.below t.place (way t.mask (hs P w k) K)) = L1 at rows1 T1 pm
  have l1 : L1.length = L.length + 1 := pm.length_eq
  have nd1 : (L1.map (·.2)).Nodup := (pm.map (·.2)).nodup_iff.mpr (List.nodup_cons.mpr ⟨m, B.nd⟩)
  have rest : ∀ b : Bool, wpAny (model P w) A (do
      storeSet a es1 (if b then t1 else { t1 with plain := false })
      if !false && (if b then t1 else { t1 with plain := false } : SetTable).tooFull then setRelay a (SetTable.grown (es.size + 1))
      return true) Q E s := fun b => by
    have Tb : TabOk (if b then t1 else { t1 with plain := false } : SetTable) (L1.map fun p => hs P w p.2) := by
      cases b
      · exact tab_plain T1 false
      · exact T1
    have mb : (if b then t1 else { t1 with plain := false } : SetTable).mask = t.mask := by cases b <;> exact p4
    have lb : (if b then t1 else { t1 with plain := false } : SetTable).led = t.led := by cases b <;> exact p5
    have fb : (if b then t1 else { t1 with plain := false } : SetTable).fill = L.length + 1 := by cases b <;> exact p9
    generalize (if b then t1 else { t1 with plain := false } : SetTable) = t2 at Tb mb lb fb ⊢
    refine wpAny_bind (wpAny_storeSet_of e1 e3 ?_ (by rw [size_rows rows1, l1, sizeLine_eq]; omega))
    have sb : Heap.SameBut a s.heap (s.heap.update a (Obj.putSet es1 t2)) := Heap.SameBut.update ..
    have ho := store_at (es' := es1) (t' := t2) e1 e3
    generalize s.heap.update a (Obj.putSet es1 t2) = h1 at sb ho ⊢
    have tk1 : ∀ p ∈ L1, Tk P w h1 p.2 p.1 := fun p hp => by
      cases pm.mem_iff.mp hp with
      | head => exact tk_but hx e1 e3 sb
      | tail _ hp => exact tk_but (B.tk p hp) e1 e3 sb
    have rm := B.room
    by_cases full : t2.tooFull = true
    · have much : t2.mask * 3 ≤ (L.length + 1) * 5 := by
        unfold SetTable.tooFull at full
        rw [decide_eq_true_eq, fb] at full
        exact full
      have at2 : (t.mask = 7 ∧ L.length = 4) ∨ (t.mask = 31 ∧ L.length = 18) := by
        rcases B.tab.mok with e | e | e <;> rw [mb, e] at much <;> rw [e] at rm <;> omega
      have go : ∀ M, SetTable.sizeAbove (SetTable.grown (L.length + 1)) = M + 1 → MaskOk M → L1.length * 5 < M * 3 → wpAny (model P w) A (setRelay a (SetTable.grown (L.length + 1))) (fun _ s1 => wpAny (model P w) A (pure true) Q E s1) E { s with heap := h1 } := fun M z1 z2 z3 =>
        relaid_at (s := { s with heap := h1 }) ho ⟨e2.1, e2.2.1, e2.2.2⟩ rfl rows1 (by rw [Tb.sz, List.length_map]) Tb.dm (by rw [mb, l1]; rcases at2 with ⟨u, v⟩ | ⟨u, v⟩ <;> omega) (by rw [lb]; exact B.led) (by omega) tk1 nd1 z1 z2 z3
          fun h2 L2 es2 ep2 t2 sb2 B2 pm2 => wpAny_pure (q true h2 L2 es2 ep2 t2 (sb.trans sb2) B2 (fun z => absurd z m) fun _ => pm2.trans pm)
      rw [size_rows B.rows]
      have both : wpAny (model P w) A (setRelay a (SetTable.grown (L.length + 1))) (fun _ s1 => wpAny (model P w) A (pure true) Q E s1) E { s with heap := h1 } := by
        rcases at2 with ⟨_, v⟩ | ⟨_, v⟩
        · exact go 31 (by rw [v, size_20]) (.inr (.inl rfl)) (by omega)
        · exact go 127 (by rw [v, size_76]) (.inr (.inr rfl)) (by omega)
      simp only [Bool.not_false, full, Bool.and_self, if_true]
      exact wpAny_bind both
    · simp only [Bool.not_false, full, Bool.true_and, Bool.false_eq_true, if_false]
      refine wpAny_bind (wpAny_pure (wpAny_pure (q true h1 L1 es1 _ t2 sb ⟨⟨_, ho, ⟨e2.1, e2.2.1, e2.2.2⟩, rfl⟩, rows1, Tb, by rw [lb]; exact B.led, ?_, by omega, tk1, nd1⟩ (fun z => absurd z m) fun _ => pm)))
      unfold SetTable.tooFull at full
      rw [decide_eq_true_eq, fb] at full
      omega
  by_cases hp : t1.plain = true
  · refine wp_if_pos hp (wpAny_bind (byval_tk hx fun b => ?_))
    exact rest b
  · refine wp_if_neg hp (wpAny_bind (wpAny_pure ?_))
    exact rest true
end

/-! ### the whole of a tuple -/
/-- what a set has of the first i -/
structure Cov (ks : List (Addr × List Str)) (i : Nat) (L : List (Addr × List Str)) : Prop where
  mem : ∀ k, k ∈ L.map (·.2) ↔ k ∈ (ks.take i).map (·.2)
  le : L.length ≤ i
  full : L.length = i ↔ ((ks.take i).map (·.2)).Nodup
theorem Cov.nil (ks : List (Addr × List Str)) : Cov ks 0 [] := ⟨fun _ => Iff.rfl, Nat.le_refl _, by simp⟩
theorem Cov.more {ks L L' : List (Addr × List Str)} {i : Nat} {x : Addr × List Str} (c : Cov ks i L) (e : ks[i]? = some x) (h1 : x.2 ∈ L.map (·.2) → L' = L) (h2 : x.2 ∉ L.map (·.2) → L'.Perm ((x.1, x.2) :: L)) : Cov ks (i + 1) L' := by
  have tk : (ks.take (i + 1)).map (·.2) = (ks.take i).map (·.2) ++ [x.2] := by
    rw [List.take_add_one, e, List.map_append]
    rfl
  have nd : ((ks.take (i + 1)).map (·.2)).Nodup ↔ ((ks.take i).map (·.2)).Nodup ∧ x.2 ∉ L.map (·.2) := by
    rw [tk, List.nodup_append]
    constructor
    · rintro ⟨a, _, b⟩
      exact ⟨a, fun h => b _ ((c.mem _).mp h) _ (List.mem_singleton.mpr rfl) rfl⟩
    · rintro ⟨a, b⟩
      refine ⟨a, by simp, fun y hy z hz q => b ((c.mem _).mpr ?_)⟩
      rw [← List.mem_singleton.mp hz, ← q]
      exact hy
  by_cases h : x.2 ∈ L.map (·.2)
  · cases h1 h
    refine ⟨fun k => ?_, Nat.le_succ_of_le c.le, ?_⟩
    · rw [tk, List.mem_append, List.mem_singleton, ← c.mem]
      exact ⟨.inl, fun z => z.elim id fun z => z ▸ h⟩
    · rw [nd]
      have := c.le
      exact ⟨fun z => absurd z (by omega), fun z => absurd h z.2⟩
  · have pm := h2 h
    refine ⟨fun k => ?_, ?_, ?_⟩
    · rw [(pm.map (·.2)).mem_iff, List.map_cons, List.mem_cons, tk, List.mem_append, List.mem_singleton, ← c.mem]
      exact Or.comm
    · rw [pm.length_eq]
      exact Nat.succ_le_succ c.le
    · rw [nd, pm.length_eq, List.length_cons, Nat.succ_inj, c.full]
      exact ⟨fun z => ⟨z, h⟩, fun z => z.1⟩
section
variable {prog : Program} {w : World} {A : Around} {R : Result → Shared → Prop} {it : Addr} {fp wr : List Addr} {G : Array GenState → Array GenState → Prop} {n : Nat} {Pv : Nat → Value → Prop} {St : Nat → Shared → Prop}
theorem loopTk (W : WalksS prog w A.in1 it fp wr G n Pv St) (b : Addr) (hb : b ∉ fp) (ks : List (Addr × List Str)) (hn : ks.length = n) (few : n < 64) (hv : ∀ (i : Nat) v, Pv i v → ∃ p, ks[i]? = some p ∧ v = .ref p.1) (hu : A.in1.units < cLine)
    (old : Heap) (tk : ∀ p ∈ ks, Tk prog w old p.2 p.1) (nb : old.get? b = none) (nw : ∀ q ∈ wr, old.get? q = none) :
    ∀ (k i : Nat) (s : Shared), n - i = k → i ≤ n → St i s → (∀ q o, old.get? q = some o → s.heap.get? q = some o) → (∃ L es ep t, Cov ks i L ∧ (∀ p ∈ L, p ∈ ks) ∧ Bag prog w s.heap b L es ep t) →
      (∀ s' L es ep t, Moved (b :: wr) G s s' → Cov ks n L → Bag prog w s'.heap b L es ep t → R (.ok (.ret .none)) s') →
      codeAny (model prog w) A (.builtin "set.update.loop" ⟨[.ref b, .ref it], []⟩) R s := by
  have bw : b ∉ wr := fun h => hb (W.sub _ h)
  have ws : ∀ q ∈ wr, q ∈ b :: wr := fun q hq => List.mem_cons_of_mem _ hq
  have kept : ∀ {u v : Heap} {p : Addr × List Str}, Tk prog w u p.2 p.1 → (∀ q o, u.get? q = some o → v.get? q = some o) → Tk prog w v p.2 p.1 := fun ⟨o, its, c, e, r⟩ f => ⟨o, its, c, f _ _ e, r⟩
  have same : ∀ {s1 s2 : Shared} {L es ep t}, Bag prog w s1.heap b L es ep t → Moved wr G s1 s2 → (∀ p ∈ L, p ∈ ks) → (∀ q o, old.get? q = some o → s2.heap.get? q = some o) → Bag prog w s2.heap b L es ep t := fun {s1 s2 L es ep t} B mv sub up => by
    obtain ⟨o, e, r⟩ := B.ob
    exact ⟨⟨o, mv.heap b o bw e, r⟩, B.rows, B.tab, B.led, B.room, B.few, fun p hp => kept (tk p (sub p hp)) up, B.nd⟩
  have up : ∀ {s1 s2 : Shared}, Moved wr G s1 s2 → (∀ q o, old.get? q = some o → s1.heap.get? q = some o) → ∀ q o, old.get? q = some o → s2.heap.get? q = some o := fun mv f q o e => mv.heap q o (fun z => by rw [nw q z] at e; cases e) (f q o e)
  intro k
  induction k with
  | zero =>
    rintro i s hk hi st f ⟨L, es, ep, t, c, sub, B⟩ done
    obtain rfl : i = n := by omega
    refine codeAny_builtin PyProof.Rows.F.entry_set_update_loop ?_
    rw [Around.under_plainId PyProof.Rows.F.plain_set_update_loop _]
    refine wpAny_bind (m := pyNext (.ref it)) (W.done s _ _ st fun s1 mv => ?_)
    exact wpAny_pure (done s1 L es ep t (mv.mono ws) c (same B mv sub (up mv f)))
  | succ k ih =>
    rintro i s hk hi st f ⟨L, es, ep, t, c, sub, B⟩ done
    have lt : i < n := by omega
    refine codeAny_builtin PyProof.Rows.F.entry_set_update_loop ?_
    rw [Around.under_plainId PyProof.Rows.F.plain_set_update_loop _]
    refine wpAny_bind (m := pyNext (.ref it)) (W.item i s _ _ lt st fun v s1 pv st1 mv => ?_)
    obtain ⟨p, ei, rfl⟩ := hv i v pv
    have B1 := same B mv sub (up mv f)
    have tp := kept (tk p (List.mem_of_getElem? ei)) (up mv f)
    refine wpAny_bind (m := holding [Value.ref p.1] (setAdd b (.ref p.1))) (wpAny_holding ?_)
    unfold setAdd
    refine wpAny_holding (wpAny_bind (wpAny_pyHash_tuple hu tp ?_))
    refine added (s := { s1 with toks := s1.toks + (p.2.length + 1) }) B1 tp hu (by have := c.le; omega) fun z h' L' es' ep' t' sb B2 c1 c2 => ?_
    have subL : ∀ q ∈ L', q ∈ ks := fun q hq => by
      by_cases h : p.2 ∈ L.map (·.2)
      · exact sub q (c1 h ▸ hq)
      · cases (c2 h).mem_iff.mp hq with
        | head => exact List.mem_of_getElem? ei
        | tail _ hq => exact sub q hq
    refine wpAny_pure ⟨plainId_quiet PyProof.Rows.F.plain_set_update_loop _, ih (i + 1) _ (by omega) lt (W.frame _ s1 _ _ st1 (Nat.le_add_right _ _) fun q hq o e => ?_) (fun q o e => ?_) ⟨L', es', ep', t', c.more ei c1 c2, subL, B2⟩ fun s2 L2 es2 ep2 t2 mv2 c3 B3 => ?_⟩
    · exact (sb.2 q fun z => hb (z ▸ hq)).trans e
    · exact (sb.2 q fun z => by rw [z, nb] at e; cases e).trans (up mv f q o e)
    · refine done s2 L2 es2 ep2 t2 (Moved.trans W.gtrans ((mv.mono ws).then_heap (Nat.le_add_right _ _) fun q o hq e => ?_) mv2) c3 B3
      exact (sb.2 q fun z => hq (z ▸ List.mem_cons_self)).trans e
end
section
variable {prog : Program} {w : World} {A : Around} {E : Value → Shared → Prop} {s : Shared}
theorem new_bag {h : Heap} {a : Addr} {led : Bool} (ho : h.get? a = some (setObj led)) (hl : w.params.followText "set-order" = true ∨ led = true) : Bag prog w h a [] #[] 0 (.fresh 0 0 led) where
  ob := ⟨_, ho, ⟨rfl, rfl, rfl⟩, rfl⟩
  rows := rfl
  tab := ⟨List.Pairwise.nil, rfl, rfl, .inl rfl, (fun _ z => nomatch z), (fun i u j e => by simp at e)⟩
  led := hl
  room := by
    show 0 * 5 < 7 * 3
    decide
  few := (by decide : 0 < 64)
  tk := fun _ z => nomatch z
  nd := List.nodup_nil
def ledOf (w : World) : Bool := !w.params.followText "set-order"
theorem ledOf_or (w : World) : w.params.followText "set-order" = true ∨ ledOf w = true := by
  unfold ledOf
  cases w.params.followText "set-order"
  · exact .inr rfl
  · exact .inl rfl
theorem init_tk {l : Addr} {items : Array Value} {ks : List (Addr × List Str)} (hh : A.handled = none) (hl : s.heap.IsTuple l items) (hi : items.toList = ks.map fun p => Value.ref p.1) (tk : ∀ p ∈ ks, Tk prog w s.heap p.2 p.1) (few : ks.length < 64) (hu : A.units + 4 < cLine) :
    codeAny (model prog w) A (.call (.builtin "set.__init__") ⟨[.ref s.heap.objs.size, .ref l], []⟩)
      (wants (fun r s2 => r = .none ∧ ∃ h' n L es ep t, s2 = { s with heap := h', toks := n } ∧ Cov ks ks.length L ∧ Bag prog w h' s.heap.objs.size L es ep t ∧ (∀ q o, s.heap.get? q = some o → h'.get? q = some o)) E)
      { s with heap := s.heap.push (setObj (ledOf w)) } := by
  have hT : Shared.TypeIs { s with heap := s.heap.push (setObj (ledOf w)) } (.ref s.heap.objs.size) "set" := ⟨_, Heap.get?_push_size _ rfl, rfl⟩
  refine codeAny_call_builtin PySem.F.called_set.init.plain PySem.F.entry_set_init (check_set_init_1 hT ?_)
  obtain ⟨⟨kc, kd, kx, kz⟩, hol, hcl, nl, hdl⟩ := hl
  simp only at hcl hdl
  subst hcl hdl
  have hol' : (s.heap.push (setObj (ledOf w))).get? l = some _ := Heap.get?_push_of_some _ hol
  have hl1 : (s.heap.push (setObj (ledOf w))).IsTuple l items := ⟨_, hol', rfl, nl, rfl⟩
  have hsls := PySem.F.sub_tuple_set
  have hslf := PySem.F.sub_tuple_frozenset
  have hne : (Value.type "tuple" == Value.type "dict") = false := by decide
  unfold Builtin.«set.__init__» noKeywords Builtin.Frozenset.updateFrom
  generalize ePI : pyIter = PI
  wp_walk
  subst ePI
  refine wpAny_pyIter_tuple hl1 (wpAny_bind (wpAny_runValue ?_))
  have below : l < s.heap.objs.size := Heap.lt_size hol
  have nh : A.in1.in1.handled = none := by simp [hh]
  have z1 : (s.heap.push (setObj (ledOf w))).objs.size = s.heap.objs.size + 1 := Heap.size_push ..
  have apart : l ≠ (s.heap.push (setObj (ledOf w))).objs.size := by
    rw [z1]
    exact Nat.ne_of_lt (Nat.lt_succ_of_lt below)
  have out : s.heap.objs.size ∉ [(s.heap.push (setObj (ledOf w))).objs.size, l] := by
    rw [List.mem_cons, List.mem_singleton, z1]
    exact fun q => q.elim (Nat.ne_of_lt (Nat.lt_succ_self _)) (Nat.ne_of_gt below)
  have zx : ks.length = items.size := by rw [← Array.length_toList, hi, List.length_map]
  have void : ∀ q, s.heap.objs.size ≤ q → s.heap.get? q = none := fun q hq => by
    cases e : s.heap.get? q with
    | none => rfl
    | some o => exact absurd (Heap.lt_size e) (Nat.not_lt_of_le hq)
  refine loopTk ((Walks.tuple nh _ l apart items).toS) s.heap.objs.size out ks zx (zx ▸ few) (fun i v e => ?val) (by simp; omega) s.heap tk (void _ (Nat.le_refl _)) (fun q hq => void q (by rw [List.mem_singleton.mp hq, z1]; omega)) (items.size - 0) 0 _ (by omega) (Nat.zero_le _) ?at_ (fun q o e => Heap.get?_push_of_some _ (Heap.get?_push_of_some _ e)) ?first ?last
  case val =>
    have e : items.toList[i]? = some v := Array.getElem?_toList ▸ e
    rw [hi, List.getElem?_map] at e
    obtain ⟨p, e1, e2⟩ := Option.map_eq_some_iff.mp e
    exact ⟨p, e1, e2.symm⟩
  case at_ => exact ⟨⟨_, Heap.get?_push_size _ rfl, rfl, rfl⟩, hl1.push _⟩
  case first => exact ⟨[], #[], 0, _, Cov.nil ks, fun _ z => (nomatch z), new_bag (Heap.get?_push_of_some _ (Heap.get?_push_size _ rfl)) (ledOf_or w)⟩
  case last =>
    rintro ⟨h', g', d', tk', os'⟩ L es ep t mv c B
    obtain rfl : g' = s.gens := mv.gens
    obtain rfl : d' = s.drawn := mv.drawn
    obtain rfl : os' = s.os := mv.os
    refine wpAny_pure (wpAny_pure ⟨rfl, h', tk', L, es, ep, t, rfl, zx ▸ c, B, fun q o e => ?_⟩)
    have lq := Heap.lt_size e
    refine mv.heap q o (by rw [List.mem_cons, List.mem_singleton, z1]; exact fun z => z.elim (Nat.ne_of_lt lq) (Nat.ne_of_lt (Nat.lt_succ_of_lt lq))) (Heap.get?_push_of_some _ (Heap.get?_push_of_some _ e))
set_option maxHeartbeats 8000000 in
theorem call_set_tk {l : Addr} {items : Array Value} {ks : List (Addr × List Str)} {Q : Value → Shared → Prop} (hh : A.handled = none) (hl : s.heap.IsTuple l items) (hi : items.toList = ks.map fun p => Value.ref p.1) (tk : ∀ p ∈ ks, Tk prog w s.heap p.2 p.1) (few : ks.length < 64) (hu : A.units + 8 < cLine)
    (h : ∀ (h' : Heap) (n : Nat) L es ep t, Cov ks ks.length L → Bag prog w h' s.heap.objs.size L es ep t → (∀ q o, s.heap.get? q = some o → h'.get? q = some o) → Q (.ref s.heap.objs.size) { s with heap := h', toks := n }) :
    wpAny (model prog w) A (call (.type "set") [.ref l]) Q E s := by
  obtain ⟨_, _, hmro⟩ := PySem.F.called_set.mro
  have hmade := PySem.F.called_set.made
  have hsub := PySem.F.called_set.sub
  have h1 := PySem.F.called_set.notType
  have h2 := PySem.F.called_set.canCreate
  have hct := PySem.F.typeCall_set_1 (.ref l)
  refine wpAny_call (codeAny_of_tree (wpAny_pure (a := _) ⟨Code.quiet_builtin _ (by decide +kernel), codeAny_builtin PySem.F.entry_type_call ?_⟩))
  rw [Around.under_plain (weight_type_call_type "set" [.ref l] []) rfl]
  repeat (any_goals (first | assumption | wp_step))
  refine codeAny_mono (code_set_led1 (.ref l) (E := E) (Q₁ := fun v s1 => v = .ref s.heap.objs.size ∧ s1 = { s with heap := s.heap.push (setObj (ledOf w)) }) ⟨rfl, rfl⟩) fun r s1 hr => ?_
  match r, hr with
  | .ok (.ret v), hr =>
    obtain ⟨rfl, rfl⟩ := hr
    have hS : (s.heap.push (setObj (ledOf w))).get? s.heap.objs.size = some (setObj (ledOf w)) := Heap.get?_push_size _ rfl
    have hT : Shared.TypeIs { s with heap := s.heap.push (setObj (ledOf w)) } (.ref s.heap.objs.size) "set" := ⟨_, hS, rfl⟩
    have hli := PySem.F.called_set.init.lookup
    have hbi := PySem.F.called_set.init.bind (.ref s.heap.objs.size)
    repeat (any_goals (first | assumption | wp_step))
    refine codeAny_mono (init_tk (E := E) (by simp [hh]) hl hi tk few (by simp; omega)) fun r s2 hr => ?_
    match r, hr with
    | .ok (.ret v), hr =>
      obtain ⟨rfl, h', n, L, es, ep, t, rfl, c, B, keep⟩ := hr
      repeat (any_goals (first | assumption | wp_step))
      exact h h' n L es ep t c B keep
    | .error e, hr => exact hr
    | .ok .next, hr => exact hr.elim
    | .ok .brk, hr => exact hr.elim
    | .ok .cont, hr => exact hr.elim
  | .error e, hr => exact hr
  | .ok .next, hr => exact hr.elim
  | .ok .brk, hr => exact hr.elim
  | .ok .cont, hr => exact hr.elim
end
theorem items_tk {P : Program} {w : World} : ∀ {k : List Str} {us : List Value}, Vals (k.map V.str) us → ItemsAre (PySem.strKind P w) k us
  | [], _, .nil => .nil
  | _ :: _, _, .cons r t => by
    obtain ⟨z, rfl⟩ := r
    exact .cons (strKind_is _ _ _ _) (items_tk t)
theorem refs_tk : ∀ {ks : List (Addr × List Str)} {us : List Value}, Vals (ks.map fun p => V.ref p.1) us → us = ks.map fun p => Value.ref p.1
  | [], _, .nil => rfl
  | _ :: _, _, .cons r t => by
    cases r
    exact congrArg _ (refs_tk t)
/-- len(set(t)), t a tuple of tuples of texts -/
def tLenSetTk (K : PySem.W.Frag) (ta : TE) : TE := fun σ H Q => ta σ H fun x H1 => ∃ (l : Addr) (ks : List (Addr × List Str)), x = .ref l ∧ SqT K H1 l (ks.map fun p => V.ref p.1) ∧ (∀ p ∈ ks, SqT K H1 p.1 (p.2.map V.str)) ∧ ks.length < 64 ∧ ∀ c : Nat, c ≤ ks.length → (c = ks.length ↔ (ks.map (·.2)).Nodup) → Q (.int c) H1
theorem pe_lenSetTk {X : Cx} {a : Expr} {ta : TE} {p p2 q pos : Pos} (hg : Gl X "len") (hm : X.mg "len" = none) (hg2 : Gl X "set") (hm2 : X.mg "set" = none) (hu : X.A.units + 64 < cLine) (ha : PE X a ta) (hc : X.calm = true := by rfl)
    (na : starEach [a] X.env = (false, eval a X.env) :: starEach [] X.env := by rfl) : PE X (.Call (.Name "len" p) [.Call (.Name "set" p2) [a] [] q] [] pos) (tLenSetTk X.K ta) := by
  refine ⟨fun pins s σ H Q I h => Call_ (ld_blt I hg hm boot_len (PyProof.Rows.callWith_builtin1 (PyProof.Rows.args_cons (Call_ (ld_blt I hg2 hm2 boot_set (PyProof.Rows.callWith_type1 (PyProof.Rows.args_cons (thn (ha.run pins s σ H _ I h) fun v s1 ⟨x, H1, I1, r1, q1⟩ => PyProof.Rows.args_nil ?_) na) na rfl))) rfl) rfl rfl))⟩
  obtain ⟨l, ks, rfl, ht, hk, few, q1⟩ := q1
  obtain rfl : v = Value.ref l := r1
  obtain ⟨its, rv, pl, _⟩ := I1.tuple ht
  refine call_set_tk (ks := ks) (I1.ok.hd hc) pl (by simpa using refs_tk rv) (fun p hp => ?_) few (by omega) fun h' n L es ep t c B keep => PyProof.Rows.args_nil ?_
  · obtain ⟨us, r, ⟨o, e1, e2, m, e3⟩, _⟩ := I1.tuple (hk p hp)
    exact ⟨o, us.toArray, m, e1, e2, e3, by simpa using items_tk r⟩
  · have I2 : Inv X pins σ H1 { s1 with heap := h', toks := n } := I1.kept keep
    obtain ⟨o, e1, e2, e3⟩ := B.ob
    have z := c.full
    rw [List.take_length] at z
    exact call_len_set e1 e2 e3 (fits_of B.rows (by rw [B.tab.sz, List.length_map]) B.tab.dm (by have := B.room; omega)) (by rw [size_rows B.rows]; have := B.few; omega) ⟨.int L.length, H1, I2.tok _, ⟨_, by rw [size_rows B.rows]⟩, q1 L.length c.le z⟩
end El

set_option Elab.async false
set_option linter.all false
set_option maxRecDepth 100000
set_option maxHeartbeats 4000000
/-! Own words: `in`, `not in` for pairs of texts in tuples and lists of such, `==` of such pairs; keyword-only parameters with defaults. -/
namespace El
open PySem PySem.Spec PyProof.Rows L2
theorem dec_iff {p : Prop} {i : Decidable p} : @decide p i = true ↔ p := decide_eq_true_iff
section
variable {X : Cx}
/-- the tuple (a, b) of texts -/
def PairAt (K : PySem.W.Frag) (H : Hp) (v : V) (p : Str × Str) : Prop := ∃ r, v = .ref r ∧ SqT K H r [.str p.1, .str p.2]
/-- a row of such -/
inductive PairsIn (K : PySem.W.Frag) (H : Hp) : List V → List (Str × Str) → Prop
  | nil : PairsIn K H [] []
  | cons {v : V} {p : Str × Str} {vs : List V} {ps : List (Str × Str)} : PairAt K H v p → PairsIn K H vs ps → PairsIn K H (v :: vs) (p :: ps)
theorem PairAt.dp {K : PySem.W.Frag} {H : Hp} {v : V} {p : Str × Str} (h : PairAt K H v p) : Dp K H v (PySem.W.Datum.toD p) := by
  obtain ⟨r, rfl, h⟩ := h
  exact .tup h (.cons (.str _) (.cons (.str _) .nil))
theorem PairsIn.dp {K : PySem.W.Frag} {H : Hp} {vs : List V} {ps : List (Str × Str)} (h : PairsIn K H vs ps) : DpAll K H vs (ps.map PySem.W.Datum.toD) := by
  induction h with
  | nil => exact .nil
  | cons a _ ih => exact .cons a.dp ih
def rInP (K : PySem.W.Frag) (neg : Bool) : R2 := fun x y H Q => ∃ (p : Str × Str) (l : Addr) (vs : List V) (ps : List (Str × Str)), PairAt K H x p ∧ y = .ref l ∧ (SqT K H l vs ∨ SqL K H l vs) ∧ PairsIn K H vs ps ∧ Q (.bl (if neg then decide (p ∉ ps) else decide (p ∈ ps))) H
theorem op_inP (K : PySem.W.Frag) (neg : Bool) (hu : X.A.units + 64 < cLine) (hK : X.K = K := by rfl) : OpR X (compareOp (if neg then .NotIn else .In)) (rInP K neg) := by
  subst hK
  intro pins s σ H x y v u Q I rx ry h
  obtain ⟨p, l, vs, ps, hp, rfl, hl, hv, q⟩ := h
  obtain ⟨bs, rd⟩ := Dp.reads I _ x v hp.dp rx
  have dep : PySem.W.Datum.depth (Str × Str) ≤ 2 := by decide
  have any_ : ((ps.map PySem.W.Datum.toD).any fun d => PyData.eqv d (PySem.W.Datum.toD p)) = true ↔ p ∈ ps := by
    have z := PySem.W.any_datum ps p
    exact (Bool.eq_iff_iff.mp z).trans dec_iff
  have room : X.A.units + 1 + min (PyData.depthAll (ps.map PySem.W.Datum.toD)) (PySem.W.Datum.toD p).depth < cLine := by
    have := PySem.W.Datum.depth_le p
    have := Nat.min_le_right (PyData.depthAll (ps.map PySem.W.Datum.toD)) (PySem.W.Datum.toD p).depth
    omega
  have yes : ∀ b : Bool, (b = true ↔ p ∈ ps) → b = decide (p ∈ ps) := fun b hb => by rw [Bool.eq_iff_iff, hb, decide_eq_true_iff]
  have no : ∀ b : Bool, (b = true ↔ p ∈ ps) → (!b) = decide (p ∉ ps) := fun b hb => by rw [yes b hb, decide_not]
  rcases hl with hl | hl
  · obtain ⟨as, rc⟩ := Dp.reads I _ (.ref l) u (.tup hl hv.dp) ry
    cases neg
    · exact PySem.SeqAt.in_tuple_data rc rd (PySem.W.plainAll_map ps) (PySem.W.Datum.plain p) room (by rw [yes _ any_]; exact ⟨.bl _, H, I, rfl, q⟩)
    · exact PySem.SeqAt.notIn_tuple_data rc rd (PySem.W.plainAll_map ps) (PySem.W.Datum.plain p) room (by rw [no _ any_]; exact ⟨.bl _, H, I, rfl, q⟩)
  · obtain ⟨as, rc⟩ := Dp.reads I _ (.ref l) u (.lst hl hv.dp) ry
    cases neg
    · exact PySem.SeqAt.in_list_data rc rd (PySem.W.plainAll_map ps) (PySem.W.Datum.plain p) room (by rw [yes _ any_]; exact ⟨.bl _, H, I, rfl, q⟩)
    · exact PySem.SeqAt.notIn_list_data rc rd (PySem.W.plainAll_map ps) (PySem.W.Datum.plain p) room (by rw [no _ any_]; exact ⟨.bl _, H, I, rfl, q⟩)
theorem inP (K : PySem.W.Frag) (hu : X.A.units + 64 < cLine) (hK : X.K = K := by rfl) : OpR X (compareOp .In) (rInP K false) := op_inP K false hu hK
theorem notInP (K : PySem.W.Frag) (hu : X.A.units + 64 < cLine) (hK : X.K = K := by rfl) : OpR X (compareOp .NotIn) (rInP K true) := op_inP K true hu hK
def rEqP (K : PySem.W.Frag) : R2 := fun x y H Q => ∃ p q : Str × Str, PairAt K H x p ∧ PairAt K H y q ∧ Q (.bl (decide (p = q))) H
theorem eqP (K : PySem.W.Frag) (hu : X.A.units + 64 < cLine) (hK : X.K = K := by rfl) : OpR X (compareOp .Eq) (rEqP K) := by
  subst hK
  intro pins s σ H x y v u Q I rx ry h
  obtain ⟨p, q, hp, hq, k⟩ := h
  obtain ⟨as, ra⟩ := Dp.reads I _ x v hp.dp rx
  obtain ⟨bs, rb⟩ := Dp.reads I _ y u hq.dp ry
  have dep : PySem.W.Datum.depth (Str × Str) ≤ 2 := by decide
  have := PySem.W.Datum.depth_le p
  have := Nat.min_le_left (PySem.W.Datum.toD p).depth (PySem.W.Datum.toD q).depth
  exact PySem.SeqAt.eq_plain ra rb (PySem.W.Datum.plain p) (PySem.W.Datum.plain q) (by omega) (by rw [PySem.W.Datum.eqv]; exact ⟨.bl _, H, I, rfl, k⟩)
/-- len(set(t)), t a tuple of pairs of texts -/
def tLenSetP (K : PySem.W.Frag) (ta : TE) : TE := fun σ H Q => ta σ H fun x H1 => ∃ (l : Addr) (vs : List V) (ps : List (Str × Str)), x = .ref l ∧ SqT K H1 l vs ∧ PairsIn K H1 vs ps ∧ ps.length < 64 ∧ ∀ c : Nat, c ≤ ps.length → (c = ps.length ↔ ps.Nodup) → Q (.int c) H1
theorem pairs_ks {K : PySem.W.Frag} {H : Hp} {vs : List V} {ps : List (Str × Str)} (h : PairsIn K H vs ps) : ∃ ks : List (Addr × List Str), vs = ks.map (fun p => V.ref p.1) ∧ (∀ p ∈ ks, SqT K H p.1 (p.2.map V.str)) ∧ ks.map (·.2) = ps.map fun p => [p.1, p.2] := by
  induction h with
  | nil => exact ⟨[], rfl, fun _ z => (nomatch z), rfl⟩
  | @cons v p vs ps a _ ih =>
    obtain ⟨r, rfl, h⟩ := a
    obtain ⟨ks, e1, e2, e3⟩ := ih
    refine ⟨(r, [p.1, p.2]) :: ks, by rw [e1]; rfl, fun q hq => ?_, by rw [List.map_cons, List.map_cons, e3]⟩
    cases hq with
    | head => exact h
    | tail _ hq => exact e2 q hq
theorem nodup_map_inj {α β : Type} {f : α → β} (hf : ∀ a b, f a = f b → a = b) {l : List α} : (l.map f).Nodup ↔ l.Nodup :=
  ⟨fun h => List.Pairwise.of_map f (fun _ _ n e => n (congrArg f e)) h, fun h => List.pairwise_map.mpr (List.Pairwise.imp (fun n e => n (hf _ _ e)) h)⟩
theorem pe_lenSetP {a : Expr} {ta : TE} {p p2 q pos : Pos} (K : PySem.W.Frag) (hg : Gl X "len") (hm : X.mg "len" = none) (hg2 : Gl X "set") (hm2 : X.mg "set" = none) (hu : X.A.units + 64 < cLine) (ha : PE X a ta) (hc : X.calm = true := by rfl)
    (na : starEach [a] X.env = (false, eval a X.env) :: starEach [] X.env := by rfl) (hK : X.K = K := by rfl) : PE X (.Call (.Name "len" p) [.Call (.Name "set" p2) [a] [] q] [] pos) (tLenSetP K ta) := by
  subst hK
  refine ⟨fun pins s σ H Q I h => Call_ (ld_blt I hg hm boot_len (PyProof.Rows.callWith_builtin1 (PyProof.Rows.args_cons (Call_ (ld_blt I hg2 hm2 boot_set (PyProof.Rows.callWith_type1 (PyProof.Rows.args_cons (thn (ha.run pins s σ H _ I h) fun v s1 ⟨x, H1, I1, r1, q1⟩ => PyProof.Rows.args_nil ?_) na) na rfl))) rfl) rfl rfl))⟩
  obtain ⟨l, vs, ps, rfl, ht, hv, few, q1⟩ := q1
  obtain ⟨ks, rfl, hk, e3⟩ := pairs_ks hv
  have el : ks.length = ps.length := by
    have := congrArg List.length e3
    rwa [List.length_map, List.length_map] at this
  obtain rfl : v = Value.ref l := r1
  obtain ⟨its, rv, pl, _⟩ := I1.tuple ht
  refine call_set_tk (ks := ks) (I1.ok.hd hc) pl (by simpa using refs_tk rv) (fun p hp => ?_) (by omega) (by omega) fun h' n L es ep t c B keep => PyProof.Rows.args_nil ?_
  · obtain ⟨us, r, ⟨o, e1, e2, m, e3⟩, _⟩ := I1.tuple (hk p hp)
    exact ⟨o, us.toArray, m, e1, e2, e3, by simpa using items_tk r⟩
  · have I2 : Inv X pins σ H1 { s1 with heap := h', toks := n } := I1.kept keep
    obtain ⟨o, e1, e2, e4⟩ := B.ob
    have z := c.full
    rw [List.take_length] at z
    have c1 := c.le
    refine call_len_set e1 e2 e4 (fits_of B.rows (by rw [B.tab.sz, List.length_map]) B.tab.dm (by have := B.room; omega)) (by rw [size_rows B.rows]; have := B.few; omega) ⟨.int L.length, H1, I2.tok _, ⟨_, by rw [size_rows B.rows]⟩, q1 L.length (by omega) ?_⟩
    rw [← el, z, e3]
    exact nodup_map_inj fun a b e => by
      injection e with e1 e2
      injection e2 with e2 _
      exact Prod.ext e1 e2
end

/-! ### two keyword-only parameters with defaults -/
structure Kw2 (K : PySem.W.Frag) (fd : FuncData) (ps : List Str) (n : Nat) (k1 k2 : Str) (d1 d2 : V) : Prop where
  no : ∃ g, KBn K fd ps n [] g (fun vs _ => vs ++ [d1, d2])
  one : ∃ g, KBn K fd ps n [k1] g (fun vs zs => vs ++ (zs ++ [d2]))
  two : ∃ g, KBn K fd ps n [k2] g (fun vs zs => vs ++ (d1 :: zs))
  all : ∃ g, KBn K fd ps n [k1, k2] g (fun vs zs => vs ++ zs)
theorem Vals.app {vs ws : List V} {us xs : List Value} (a : Vals vs us) (b : Vals ws xs) : Vals (vs ++ ws) (us ++ xs) := by
  induction a with
  | nil => exact b
  | cons r _ ih => exact .cons r ih
theorem kw2_mk {K : PySem.W.Frag} {x qual : Str} {params : Arguments} {body : List Stmt} {scope : Scope} {f : Addr} {fd : FuncData} {ps : List Str} {k1 k2 : Str} {d1 d2 : V} (n : Nat) (F : FunD K x qual params body scope [] [(k1, d1), (k2, d2)] f fd)
    (h0 : ∀ (D : Addr) (doc pm : Value) (an : Option Addr) (cdv ct : Value) (us : List Value) (m1 m2 : Value), us.length = n → KwChain D [(k1, m1), (k2, m2)] (bindArgs (PySem.W.fnOf x qual params body scope .none (.ref D) doc pm an cdv ct) ⟨us, []⟩) (ps.zip (us ++ [m1, m2])))
    (h1 : ∀ (D : Addr) (doc pm : Value) (an : Option Addr) (cdv ct : Value) (us : List Value) (m2 w1 : Value), us.length = n → KwChain D [(k2, m2)] (bindArgs (PySem.W.fnOf x qual params body scope .none (.ref D) doc pm an cdv ct) ⟨us, [(k1, w1)]⟩) (ps.zip (us ++ [w1, m2])))
    (h2 : ∀ (D : Addr) (doc pm : Value) (an : Option Addr) (cdv ct : Value) (us : List Value) (m1 w2 : Value), us.length = n → KwChain D [(k1, m1)] (bindArgs (PySem.W.fnOf x qual params body scope .none (.ref D) doc pm an cdv ct) ⟨us, [(k2, w2)]⟩) (ps.zip (us ++ [m1, w2])))
    (h3 : ∀ (D : Addr) (doc pm : Value) (an : Option Addr) (cdv ct : Value) (us : List Value) (w1 w2 : Value), us.length = n → KwChain D [] (bindArgs (PySem.W.fnOf x qual params body scope .none (.ref D) doc pm an cdv ct) ⟨us, [(k1, w1), (k2, w2)]⟩) (ps.zip (us ++ [w1, w2]))) :
    Kw2 K fd ps n k1 k2 d1 d2 where
  no := by
    obtain ⟨mv, h⟩ := F.kbinds0 n [] [(k1, d1), (k2, d2)] (fun us ms _ => us ++ ms) (by simp) (fun q h => h) (fun a b _ => Vals.app a b) fun D doc pm an cdv ct us mv ws l1 l2 l3 => match mv, ws, l2, l3 with | [m1, m2], [], _, _ => h0 D doc pm an cdv ct us m1 m2 l1
    exact ⟨_, h⟩
  one := by
    obtain ⟨mv, h⟩ := F.kbinds0 n [k1] [(k2, d2)] (fun us ms ws => us ++ (ws ++ ms)) (by simp) (fun q h => List.mem_cons_of_mem _ h) (fun a b c => Vals.app a (Vals.app c b)) fun D doc pm an cdv ct us mv ws l1 l2 l3 => match mv, ws, l2, l3 with | [m2], [w1], _, _ => h1 D doc pm an cdv ct us m2 w1 l1
    exact ⟨_, h⟩
  two := by
    obtain ⟨mv, h⟩ := F.kbinds0 n [k2] [(k1, d1)] (fun us ms ws => us ++ (ms ++ ws)) (by simp) (fun q h => by rw [List.mem_singleton.mp h]; exact List.mem_cons_self) (fun a b c => Vals.app a (Vals.app b c)) fun D doc pm an cdv ct us mv ws l1 l2 l3 => match mv, ws, l2, l3 with | [m1], [w2], _, _ => h2 D doc pm an cdv ct us m1 w2 l1
    exact ⟨_, h⟩
  all := by
    obtain ⟨mv, h⟩ := F.kbinds0 n [k1, k2] [] (fun us ms ws => us ++ ws) (by simp) (fun q h => nomatch h) (fun a b c => Vals.app a c) fun D doc pm an cdv ct us mv ws l1 l2 l3 => match mv, ws, l2, l3 with | [], [w1, w2], _, _ => h3 D doc pm an cdv ct us w1 w2 l1
    exact ⟨_, h⟩
/-- a def of the text with two keyword-only parameters that have defaults -/
theorem fundk_mk {K : PySem.W.Frag} {x qual k1 k2 : Str} {st : Stmt} {f D e1 e2 : Addr} {oc : Value} {od an : Option Addr} {osl : Array (Option Value)} {doc pm cdv ct : Value}
    (l : K.lookup f = some ⟨oc, od, .func (PySem.W.fnOf x qual (defArgs st) (defBody st) (defScope st) .none (.ref D) doc pm an cdv ct), osl⟩) (c : PySem.W.codeIn K cdv qual = true) (k : PySem.W.keepIn K (.ref f) = true)
    (h1 : PySem.W.nsIn K D k1 = some (some (.ref e1))) (h2 : PySem.W.nsIn K D k2 = some (some (.ref e2))) : FunD K x qual (defArgs st) (defBody st) (defScope st) [] [(k1, V.ref e1), (k2, V.ref e2)] f (PySem.W.fnOf x qual (defArgs st) (defBody st) (defScope st) .none (.ref D) doc pm an cdv ct) := by
  refine ⟨⟨oc, od, .none, .ref D, doc, pm, an, cdv, ct, osl, rfl, l, c, .inl ⟨rfl, rfl⟩, .inr ⟨D, rfl, fun q hq => ?_⟩⟩, k⟩
  cases hq with
  | head => exact ⟨_, h1, rfl⟩
  | tail _ hq =>
    cases hq with
    | head => exact ⟨_, h2, rfl⟩
    | tail _ hq => exact nomatch hq
/-- a class whose __init__ has two keyword-only parameters, their defaults empty tuples -/
structure CalK (P : Program) (w : World) (K : PySem.W.Frag) (mg : Str → Option Value) (base : Heap) (CX : CXT) (k : Nat) (x : Str) (C f : Addr) (fd : FuncData) (ps : List Str) (n : Nat) (k1 k2 : Str) (e1 e2 : Addr) (sp : Sp) : Prop where
  G : FnOk P w K mg base CX k f fd ps sp
  b : Kw2 K fd ps n k1 k2 (.ref e1) (.ref e2)
  mkc : Mk K C f
  m : mg x = some (.ref C)
  t1 : ∀ H, SqT K H e1 []
  t2 : ∀ H, SqT K H e2 []
section
variable {X : Cx} {CX : CXT} {k : Nat} {C f e1 e2 : Addr} {fd : FuncData} {ps : List Str} {sp : Sp} {E : XK} {x k1 k2 : Str} {p pos : Pos} {e : Expr} {es : List Expr} {t tk : TA} {kws : List Keyword} {n : Nat}
theorem pe_mkNo (c : CalK X.prog X.w X.K X.mg X.base CX k x C f fd ps (n + 1) k1 k2 e1 e2 sp) (hr : Room (k + 1) X.A) (hg : Gl X x) (hx : Passes CX X E) (ha : PA X (e :: es) t) (hkw : PK X [] tk) (hdb : (x == ("__debug__" : Str)) = false := by decide)
    (he : starEach (e :: es) X.env = (false, eval e X.env) :: starEach es X.env := by rfl) (hpl : ((backTo pos (starEach (e :: es) X.env)).any (·.1) || (backToKw pos (keywordEach [] X.env)).any (·.1.isNone)) = false := by rfl) (hall : (backToKw pos (keywordEach [] X.env)).all (·.1.isSome) = true := by rfl) (hks : (backToKw pos (keywordEach [] X.env)).filterMap (·.1) = [] := by rfl) :
    PE X (.Call (.Name x p) (e :: es) [] pos) (tMakeK C n 0 sp (fun vs _ => vs ++ [.ref e1, .ref e2]) E t tk) := by
  obtain ⟨g, hb⟩ := c.b.no
  exact pe_makeK c.mkc c.G hr hg c.m hb hx ha hkw hall hks hdb he hpl
theorem pe_mkOne (c : CalK X.prog X.w X.K X.mg X.base CX k x C f fd ps (n + 1) k1 k2 e1 e2 sp) (hr : Room (k + 1) X.A) (hg : Gl X x) (hx : Passes CX X E) (ha : PA X (e :: es) t) (hkw : PK X kws tk) (hdb : (x == ("__debug__" : Str)) = false := by decide)
    (he : starEach (e :: es) X.env = (false, eval e X.env) :: starEach es X.env := by rfl) (hpl : ((backTo pos (starEach (e :: es) X.env)).any (·.1) || (backToKw pos (keywordEach kws X.env)).any (·.1.isNone)) = false := by rfl) (hall : (backToKw pos (keywordEach kws X.env)).all (·.1.isSome) = true := by rfl) (hks : (backToKw pos (keywordEach kws X.env)).filterMap (·.1) = [k1] := by rfl) :
    PE X (.Call (.Name x p) (e :: es) kws pos) (tMakeK C n 1 sp (fun vs zs => vs ++ (zs ++ [.ref e2])) E t tk) := by
  obtain ⟨g, hb⟩ := c.b.one
  exact pe_makeK c.mkc c.G hr hg c.m hb hx ha hkw hall hks hdb he hpl
theorem pe_mkTwo (c : CalK X.prog X.w X.K X.mg X.base CX k x C f fd ps (n + 1) k1 k2 e1 e2 sp) (hr : Room (k + 1) X.A) (hg : Gl X x) (hx : Passes CX X E) (ha : PA X (e :: es) t) (hkw : PK X kws tk) (hdb : (x == ("__debug__" : Str)) = false := by decide)
    (he : starEach (e :: es) X.env = (false, eval e X.env) :: starEach es X.env := by rfl) (hpl : ((backTo pos (starEach (e :: es) X.env)).any (·.1) || (backToKw pos (keywordEach kws X.env)).any (·.1.isNone)) = false := by rfl) (hall : (backToKw pos (keywordEach kws X.env)).all (·.1.isSome) = true := by rfl) (hks : (backToKw pos (keywordEach kws X.env)).filterMap (·.1) = [k2] := by rfl) :
    PE X (.Call (.Name x p) (e :: es) kws pos) (tMakeK C n 1 sp (fun vs zs => vs ++ (.ref e1 :: zs)) E t tk) := by
  obtain ⟨g, hb⟩ := c.b.two
  exact pe_makeK c.mkc c.G hr hg c.m hb hx ha hkw hall hks hdb he hpl
theorem pe_mkAll (c : CalK X.prog X.w X.K X.mg X.base CX k x C f fd ps (n + 1) k1 k2 e1 e2 sp) (hr : Room (k + 1) X.A) (hg : Gl X x) (hx : Passes CX X E) (ha : PA X (e :: es) t) (hkw : PK X kws tk) (hdb : (x == ("__debug__" : Str)) = false := by decide)
    (he : starEach (e :: es) X.env = (false, eval e X.env) :: starEach es X.env := by rfl) (hpl : ((backTo pos (starEach (e :: es) X.env)).any (·.1) || (backToKw pos (keywordEach kws X.env)).any (·.1.isNone)) = false := by rfl) (hall : (backToKw pos (keywordEach kws X.env)).all (·.1.isSome) = true := by rfl) (hks : (backToKw pos (keywordEach kws X.env)).filterMap (·.1) = [k1, k2] := by rfl) :
    PE X (.Call (.Name x p) (e :: es) kws pos) (tMakeK C n 2 sp (fun vs zs => vs ++ zs) E t tk) := by
  obtain ⟨g, hb⟩ := c.b.all
  exact pe_makeK c.mkc c.G hr hg c.m hb hx ha hkw hall hks hdb he hpl
end
end El

set_option Elab.async false
set_option linter.all false
set_option maxRecDepth 100000
set_option maxHeartbeats 4000000
/-! Own words: len(set(xs)) of a list or a tuple of any number of texts. -/
namespace El
open PySem PySem.Spec PyProof.Rows L2
section
variable {prog : Program} {w : World} {A : Around} {E : Value → Shared → Prop} {s : Shared}
/-- what set.__init__ does to a new set with a list of texts -/
theorem init_txL {l : Addr} {items : Array Value} {xs : List Str} {led : Bool} (hh : A.handled = none) (hl : s.heap.IsList l items) (hi : PyProof.Rows.StrsAre items.toList xs) (hx : xs.length + 1 < scanBound) :
    codeAny (model prog w) A (.call (.builtin "set.__init__") ⟨[.ref s.heap.objs.size, .ref l], []⟩)
      (wants (fun r s2 => r = .none ∧ ∃ h' tk c, s2 = { s with heap := h', toks := tk } ∧ Cnt xs xs.length c ∧ h'.SetOf (PySem.strKind prog w) s.heap.objs.size (Has xs xs.length) c ∧ (∀ q o, s.heap.get? q = some o → h'.get? q = some o)) E)
      { s with heap := s.heap.push (setObj led) } := by
  have hT : Shared.TypeIs { s with heap := s.heap.push (setObj led) } (.ref s.heap.objs.size) "set" := ⟨_, Heap.get?_push_size _ rfl, rfl⟩
  refine codeAny_call_builtin PySem.F.called_set.init.plain PySem.F.entry_set_init (check_set_init_1 hT ?_)
  obtain ⟨⟨kc, kd, kx, ks⟩, hol, hcl, nl, hdl⟩ := hl
  simp only at hcl hdl
  subst hcl hdl
  have hol' : (s.heap.push (setObj led)).get? l = some _ := Heap.get?_push_of_some _ hol
  have hl1 : (s.heap.push (setObj led)).IsList l items := ⟨_, hol', rfl, nl, rfl⟩
  have hsls := PySem.F.sub_list_set
  have hslf := PySem.F.sub_list_frozenset
  have hne : (Value.type "list" == Value.type "dict") = false := by decide
  unfold Builtin.«set.__init__» noKeywords Builtin.Frozenset.updateFrom
  generalize ePI : pyIter = PI
  wp_walk
  subst ePI
  refine wpAny_pyIter_list hl1 (wpAny_bind (wpAny_runValue ?_))
  have below : l < s.heap.objs.size := Heap.lt_size hol
  have nh : A.in1.in1.handled = none := by simp [hh]
  have z1 : (s.heap.push (setObj led)).objs.size = s.heap.objs.size + 1 := Heap.size_push ..
  have apart : l ≠ (s.heap.push (setObj led)).objs.size := by
    rw [z1]
    exact Nat.ne_of_lt (Nat.lt_succ_of_lt below)
  have out : s.heap.objs.size ∉ [(s.heap.push (setObj led)).objs.size, l] := by
    rw [List.mem_cons, List.mem_singleton, z1]
    exact fun q => q.elim (Nat.ne_of_lt (Nat.lt_succ_self _)) (Nat.ne_of_gt below)
  have zx : xs.length = items.size := by rw [← StrsAre.len_eq hi, Array.length_toList]
  refine loopTx ((Walks.list nh _ l apart items).toS) s.heap.objs.size out xs zx (zx ▸ hx) (fun i v e => SS.strs_at hi i v (Array.getElem?_toList ▸ e)) (items.size - 0) 0 _ (by omega) (Nat.zero_le _) ?at_ ?first ?last
  case at_ => exact ⟨⟨_, Heap.get?_push_size _ rfl, rfl, rfl⟩, hl1.push _⟩
  case first =>
    refine ⟨0, Cnt.nil xs, ?_⟩
    refine SetOf_congr ((PyProof.Rows.setObjOf_fresh (knd := PySem.strKind prog w) led).setOf (Heap.get?_push_of_some _ (Heap.get?_push_size _ rfl)) (by unfold scanBound; omega)) (fun y => ?_) rfl
    rfl
  case last =>
    rintro ⟨h', g', d', tk', os'⟩ c mv hc ho
    obtain rfl : g' = s.gens := mv.gens
    obtain rfl : d' = s.drawn := mv.drawn
    obtain rfl : os' = s.os := mv.os
    refine wpAny_pure (wpAny_pure ⟨rfl, h', tk', c, rfl, zx ▸ hc, zx ▸ ho, fun q o e => ?_⟩)
    have lq := Heap.lt_size e
    refine mv.heap q o (by rw [List.mem_cons, List.mem_singleton, z1]; exact fun z => z.elim (Nat.ne_of_lt lq) (Nat.ne_of_lt (Nat.lt_succ_of_lt lq))) (Heap.get?_push_of_some _ (Heap.get?_push_of_some _ e))
set_option maxHeartbeats 8000000 in
theorem call_set_txL {l : Addr} {items : Array Value} {xs : List Str} {Q : Value → Shared → Prop} (hh : A.handled = none) (hl : s.heap.IsList l items) (hi : PyProof.Rows.StrsAre items.toList xs) (hx : xs.length + 1 < scanBound)
    (h : ∀ (h' : Heap) (tk c : Nat), Cnt xs xs.length c → h'.SetOf (PySem.strKind prog w) s.heap.objs.size (Has xs xs.length) c → (∀ q o, s.heap.get? q = some o → h'.get? q = some o) → Q (.ref s.heap.objs.size) { s with heap := h', toks := tk }) :
    wpAny (model prog w) A (call (.type "set") [.ref l]) Q E s := by
  obtain ⟨_, _, hmro⟩ := PySem.F.called_set.mro
  have hmade := PySem.F.called_set.made
  have hsub := PySem.F.called_set.sub
  have h1 := PySem.F.called_set.notType
  have h2 := PySem.F.called_set.canCreate
  have hct := PySem.F.typeCall_set_1 (.ref l)
  refine wpAny_call (codeAny_of_tree (wpAny_pure (a := _) ⟨Code.quiet_builtin _ (by decide +kernel), codeAny_builtin PySem.F.entry_type_call ?_⟩))
  rw [Around.under_plain (weight_type_call_type "set" [.ref l] []) rfl]
  repeat (any_goals (first | assumption | wp_step))
  refine codeAny_mono (code_set_new_1 (.ref l) (E := E) (Q₁ := fun v s1 => ∃ led, v = .ref s.heap.objs.size ∧ s1 = { s with heap := s.heap.push (setObj led) }) fun led => ⟨led, rfl, rfl⟩) fun r s1 hr => ?_
  match r, hr with
  | .ok (.ret v), hr =>
    obtain ⟨led, rfl, rfl⟩ := hr
    have hS : (s.heap.push (setObj led)).get? s.heap.objs.size = some (setObj led) := Heap.get?_push_size _ rfl
    have hT : Shared.TypeIs { s with heap := s.heap.push (setObj led) } (.ref s.heap.objs.size) "set" := ⟨_, hS, rfl⟩
    have hli := PySem.F.called_set.init.lookup
    have hbi := PySem.F.called_set.init.bind (.ref s.heap.objs.size)
    repeat (any_goals (first | assumption | wp_step))
    refine codeAny_mono (init_txL (E := E) (by simp [hh]) hl hi hx) fun r s2 hr => ?_
    match r, hr with
    | .ok (.ret v), hr =>
      obtain ⟨rfl, h', tk, c, rfl, hc, ho, keep⟩ := hr
      repeat (any_goals (first | assumption | wp_step))
      exact h h' tk c hc ho keep
    | .error e, hr => exact hr
    | .ok .next, hr => exact hr.elim
    | .ok .brk, hr => exact hr.elim
    | .ok .cont, hr => exact hr.elim
  | .error e, hr => exact hr
  | .ok .next, hr => exact hr.elim
  | .ok .brk, hr => exact hr.elim
  | .ok .cont, hr => exact hr.elim
end
/-- len(set(xs)), xs a tuple or a list of texts -/
def tLenSetS (K : PySem.W.Frag) (ta : TE) : TE := fun σ H Q => ta σ H fun x H1 => ∃ (l : Addr) (xs : List Str), x = .ref l ∧ (SqT K H1 l (xs.map V.str) ∨ SqL K H1 l (xs.map V.str)) ∧ xs.length < 64 ∧ ∀ c : Nat, c ≤ xs.length → (c = xs.length ↔ xs.Nodup) → Q (.int c) H1
theorem pe_lenSetS {X : Cx} {a : Expr} {ta : TE} {p p2 q pos : Pos} (K : PySem.W.Frag) (hg : Gl X "len") (hm : X.mg "len" = none) (hg2 : Gl X "set") (hm2 : X.mg "set" = none) (ha : PE X a ta) (hc : X.calm = true := by rfl)
    (na : starEach [a] X.env = (false, eval a X.env) :: starEach [] X.env := by rfl) (hK : X.K = K := by rfl) : PE X (.Call (.Name "len" p) [.Call (.Name "set" p2) [a] [] q] [] pos) (tLenSetS K ta) := by
  subst hK
  refine ⟨fun pins s σ H Q I h => Call_ (ld_blt I hg hm boot_len (PyProof.Rows.callWith_builtin1 (PyProof.Rows.args_cons (Call_ (ld_blt I hg2 hm2 boot_set (PyProof.Rows.callWith_type1 (PyProof.Rows.args_cons (thn (ha.run pins s σ H _ I h) fun v s1 ⟨x, H1, I1, r1, q1⟩ => PyProof.Rows.args_nil ?_) na) na rfl))) rfl) rfl rfl))⟩
  obtain ⟨l, xs, rfl, ht, few, q1⟩ := q1
  obtain rfl : v = Value.ref l := r1
  have fin : ∀ (h' : Heap) (tk c : Nat), Cnt xs xs.length c → h'.SetOf (PySem.strKind X.prog X.w) s1.heap.objs.size (Has xs xs.length) c → (∀ q o, s1.heap.get? q = some o → h'.get? q = some o) → wpAny (model X.prog X.w) X.A (call (.builtin "len") [.ref s1.heap.objs.size]) (EP X pins σ Q) X.xe { s1 with heap := h', toks := tk } := fun h' tk c hcn hS keep => by
    obtain ⟨o, es, ep, tb, ho, hex, hd, _, _, _, hf, hn⟩ := hS
    have I2 : Inv X pins σ H1 { s1 with heap := h', toks := tk } := I1.kept keep
    obtain ⟨c1, c2⟩ := hcn
    rw [List.take_length] at c2
    exact call_len_set ho hex hd hf (by rw [hn]; omega) ⟨.int c, H1, I2.tok _, ⟨_, by rw [hn]⟩, q1 c c1 c2⟩
  rcases ht with ht | ht
  · obtain ⟨its, rv, pl, _⟩ := I1.tuple ht
    exact call_set_tx (I1.ok.hd hc) pl (by simpa using strsAre_of rv) (by unfold scanBound; omega) fun h' tk c hcn hS keep => PyProof.Rows.args_nil (fin h' tk c hcn hS keep)
  · obtain ⟨its, rv, pl, _⟩ := I1.list ht
    exact call_set_txL (I1.ok.hd hc) pl.isList (by simpa using strsAre_of rv) (by unfold scanBound; omega) fun h' tk c hcn hS keep => PyProof.Rows.args_nil (fin h' tk c hcn hS keep)
end El

set_option Elab.async false
set_option linter.all false
set_option maxRecDepth 100000
set_option maxHeartbeats 4000000
/-! Own words: methods, and classes with keyword-only parameters, called inside a try. -/
namespace El
open PySem PySem.Spec PyProof.Rows L2
section
variable {X : Cx} {CX : CXT} {k : Nat} {C f : Addr} {fd : FuncData} {ps : List Str} {sp : Sp} {E : L2.St → XK} {o e : Expr} {es : List Expr} {m : Str} {pos apos : Pos} {ta : TE} {t : TA} {pl : Sem Bool}
/-- o.m(e, ..), what it lets out being taken where it stands -/
def tMcS (C : Addr) (m : Str) (sp : Sp) (E : L2.St → XK) (ta : TE) (t : TA) : TE := fun σ H Q => ta σ H fun x H1 => ∃ a dx fs, x = .ref a ∧ H1 a = some (.ins C dx fs) ∧ fs.lookup m = none ∧ t σ H1 fun vs H2 => sp (x :: vs) H2 Q (E σ)
theorem pe_mcS (he : PE X o ta) (c : Cls X.K C) (hm : Meth X.K C m f) (F : FnOk X.prog X.w X.K X.mg X.base CX k f fd ps sp) (hr : Room k X.A) (hb : Binds X.K fd ps []) (hx : ∀ σ, PassesAt CX X σ (E σ)) (ha : PA X (e :: es) t)
    (hst : starEach (e :: es) X.env = (false, eval e X.env) :: starEach es X.env := by rfl) (hpl : (backTo pos (starEach es X.env)).any (·.1) = false := by rfl)
    (ht : eval (.Call (.Attribute o m apos) (e :: es) [] pos) X.env = (do
      let ov ← eval o X.env
      standAt apos.atName
      let (f, first) ← holding [ov] (getMethod ov m pl)
      callWith pos f first (backTo pos (starEach (e :: es) X.env)) (backToKw pos (keywordEach [] X.env))) := by rfl) :
    PE X (.Call (.Attribute o m apos) (e :: es) [] pos) (tMcS C m sp E ta t) := by
  refine ⟨fun pins s σ H Q I h => PySem.W.methodCall_KW (pl := pl) (thn (he.run pins s σ H _ I h) fun u s1 ⟨x, H1, I1, rx, a, dx, fs, ex, ea, l, q⟩ => ?_) ht⟩
  subst ex
  cases (show u = Value.ref a from rx)
  refine getmeth_ok I1 ea c hm l (PySem.W.callWith_K (first := [.ref a]) (h₀ := X.base) I.ok.mod.kin hm.kp (thn (ha.run pos pins s1 σ H1 _ I1 q) fun us s2 ⟨vs, H2, I2, r, q2⟩ => ⟨I2.kIn, ?_⟩) hst hpl)
  exact run_fnS (us := .ref a :: us) (vs := .ref a :: vs) F hr hb (hx σ) I2 (.cons rfl r) q2
end
section
variable {X : Cx} {CX : CXT} {k n : Nat} {C f e1 e2 : Addr} {fd : FuncData} {ps ks : List Str} {sp : Sp} {E : L2.St → XK} {x k1 k2 : Str} {p pos : Pos} {e : Expr} {es : List Expr} {kws : List Keyword} {t tk : TA} {g : List Value → List Value → List Value} {gV : List V → List V → List V}
/-- C(e, .., k = v, ..), what its __init__ lets out being taken where it stands -/
def tMkKS (C : Addr) (n m : Nat) (sp : Sp) (gV : List V → List V → List V) (E : L2.St → XK) (t tk : TA) : TE := fun σ H Q => t σ H fun vs H1 => tk σ H1 fun zs H2 => vs.length = n ∧ zs.length = m ∧ ∀ x dx, H2 x = none → H2 dx = none → dx ≠ x →
  sp (gV (.ref x :: vs) zs) (upd (upd H2 dx (.own x)) x (.ins C dx [])) (fun v H3 => v = .non ∧ Q (.ref x) H3) (E σ)
theorem run_mkKS {pins : List (Addr × Obj)} {σ : L2.St} {H : Hp} {s : Shared} {Q : VK} {us ws : List Value} {vs zs : List V} {E : XK} (M : Mk X.K C f) (F : FnOk X.prog X.w X.K X.mg X.base CX k f fd ps sp) (hr : Room (k + 1) X.A) (hb : KBn X.K fd ps (n + 1) ks g gV) (hx : PassesAt CX X σ E)
    (I : Inv X pins σ H s) (r : Vals vs us) (rz : Vals zs ws) (l1 : vs.length = n) (l2 : zs.length = ks.length)
    (h : ∀ x dx, H x = none → H dx = none → dx ≠ x → sp (gV (.ref x :: vs) zs) (upd (upd H dx (.own x)) x (.ins C dx [])) (fun v H2 => v = .non ∧ Q (.ref x) H2) E) :
    wpAny (model X.prog X.w) X.A (call (.ref C) us (ks.zip ws)) (EP X pins σ Q) X.xe s := by
  have fresh := fun n hn => I.hok.fresh (a := n) hn
  have q := h (s.heap.objs.size + 1) s.heap.objs.size (fresh _ (Nat.le_succ _)) (fresh _ (Nat.le_refl _)) (Nat.ne_of_lt (Nat.lt_succ_self _))
  have J := Inv.made (C := C) I
  have rr : Vals (V.ref (s.heap.objs.size + 1) :: vs) (Value.ref (s.heap.objs.size + 1) :: us) := .cons rfl r
  have len : (Value.ref (s.heap.objs.size + 1) :: us).length = n + 1 := by rw [← rr.length, List.length_cons, l1]
  have bt := hb.to _ (Value.ref (s.heap.objs.size + 1) :: us) ws J.kIn len (rz.length.symm.trans l2)
  refine wpAny_call (make_map (f := f) I.kIn M.makes M.init (beq_iff_eq.mp M.fn) (codeAny_mono (F.run _ X.stack _ _ ⟨Value.ref (s.heap.objs.size + 1) :: us, ks.zip ws⟩ _ _ _ E (hr.make C us (ks.zip ws)) (J.env0.make C us (ks.zip ws)) bt (hb.rel rr rz) q) fun r s' hs => ?_))
  match r, hs with
  | .error e, hs => exact hx pins _ _ e s' J hs
  | .ok (.ret u), hs =>
    obtain ⟨v, H', J', rv, ev, q'⟩ := J.after hs
    subst ev
    exact ⟨rv, V.ref (s.heap.objs.size + 1), H', J', rfl, q'⟩
  | .ok .next, hs => exact False.elim hs
  | .ok .brk, hs => exact False.elim hs
  | .ok .cont, hs => exact False.elim hs
theorem pe_mkKS (M : Mk X.K C f) (F : FnOk X.prog X.w X.K X.mg X.base CX k f fd ps sp) (hr : Room (k + 1) X.A) (hg : Gl X x) (hm : X.mg x = some (.ref C)) (hb : KBn X.K fd ps (n + 1) ks g gV) (hx : ∀ σ, PassesAt CX X σ (E σ)) (ha : PA X (e :: es) t) (hkw : PK X kws tk)
    (hall : (backToKw pos (keywordEach kws X.env)).all (·.1.isSome) = true := by rfl) (hks : (backToKw pos (keywordEach kws X.env)).filterMap (·.1) = ks := by rfl) (hdb : (x == ("__debug__" : Str)) = false := by decide)
    (he : starEach (e :: es) X.env = (false, eval e X.env) :: starEach es X.env := by rfl) (hpl : ((backTo pos (starEach (e :: es) X.env)).any (·.1) || (backToKw pos (keywordEach kws X.env)).any (·.1.isNone)) = false := by rfl) :
    PE X (.Call (.Name x p) (e :: es) kws pos) (tMkKS C n ks.length sp gV E t tk) := by
  refine ⟨fun pins s σ H Q I h => wpAny_Call_Name_kw (ld_glob I hg hm (PySem.W.callWith_KW (h₀ := X.base) I.ok.mod.kin M.kp hall (thn (ha.run pos pins s σ H _ I h) fun us s1 ⟨vs, H1, I1, r, q⟩ => ?_) hpl he) hdb)⟩
  refine thn (hkw.run pos pins s1 σ H1 _ I1 q) fun ws s2 ⟨zs, H2, I2, rz, l1, l2, q2⟩ => ⟨I2.kIn, ?_⟩
  rw [hks]
  exact run_mkKS M F hr hb (hx σ) I2 r rz l1 l2 q2
theorem pe_mkAllS (c : CalK X.prog X.w X.K X.mg X.base CX k x C f fd ps (n + 1) k1 k2 e1 e2 sp) (hr : Room (k + 1) X.A) (hg : Gl X x) (hx : ∀ σ, PassesAt CX X σ (E σ)) (ha : PA X (e :: es) t) (hkw : PK X kws tk) (hdb : (x == ("__debug__" : Str)) = false := by decide)
    (he : starEach (e :: es) X.env = (false, eval e X.env) :: starEach es X.env := by rfl) (hpl : ((backTo pos (starEach (e :: es) X.env)).any (·.1) || (backToKw pos (keywordEach kws X.env)).any (·.1.isNone)) = false := by rfl) (hall : (backToKw pos (keywordEach kws X.env)).all (·.1.isSome) = true := by rfl) (hks : (backToKw pos (keywordEach kws X.env)).filterMap (·.1) = [k1, k2] := by rfl) :
    PE X (.Call (.Name x p) (e :: es) kws pos) (tMkKS C n 2 sp (fun vs zs => vs ++ zs) E t tk) := by
  obtain ⟨g, hb⟩ := c.b.all
  exact pe_mkKS c.mkc c.G hr hg c.m hb hx ha hkw hall hks hdb he hpl
end
end El

set_option Elab.async false
set_option linter.all false
set_option maxRecDepth 100000
set_option maxHeartbeats 4000000
/-! Own words: operators of own classes with a text, t[::-1] of a tuple. -/
namespace El
open PySem PySem.Spec PyProof.Rows L2
/-! ### a op z, a of the class at C, z a text -/
section
variable {X : Cx} {CX : CXT} {k : Nat} {C f : Addr} {fd : FuncData} {ps : List Str} {sp : Sp} {E : L2.St → XK} {op : Operator} {a b : Expr} {ta tb : TE} {pos : Pos}
def tTxtS (C : Addr) (sp : Sp) (E : L2.St → XK) (ta tb : TE) : TE := fun σ H Q => ta σ H fun x H1 => tb σ H1 fun y H2 => ∃ a dx fs z, x = .ref a ∧ y = .str z ∧ H2 a = some (.ins C dx fs) ∧ sp [.ref a, .str z] H2 Q (E σ)
theorem run_opS {pins : List (Addr × Obj)} {σ : L2.St} {H : Hp} {s : Shared} {Q : VK} {y a : Addr} {z : Str} {t : PySem.Tok} (c : OpT X.K C f op "str") (F : FnOk X.prog X.w X.K X.mg X.base CX k f fd ps sp) (hr : Room k X.A) (hb : Binds X.K fd ps []) (hx : PassesAt CX X σ (E σ)) (I : Inv X pins σ H s)
    {dx : Addr} {fs : List (Str × V)} (ea : H a = some (.ins C dx fs)) (q : sp [.ref a, .str z] H Q (E σ)) : wpAny (model X.prog X.w) X.A (binaryOp op (.ref a) (.str z t)) (EP X pins σ Q) X.xe s := by
  obtain ⟨m, fr⟩ := I.fr
  obtain ⟨mA, O, _⟩ := ins_get I.hok ea
  obtain ⟨od, J, _⟩ := O.look
  obtain ⟨rc, hr1, hr2⟩ := c.hr
  obtain ⟨fo, h1⟩ := c.h1
  obtain ⟨ro, h2⟩ := c.h2
  refine PySem.W.ksp_binT fr I.ok.mod.kin J (T := "str") rfl c.c.sf c.c.at_ c.c.fn hr1 hr2 h1 h2 c.sub ?_
  exact wpAny_mono (run_fnS (us := [.ref a, .str z t]) (vs := [.ref a, .str z]) F hr hb hx I (.cons rfl (.cons ⟨t, rfl⟩ .nil)) q) (fun u' s' h' => cmpBack_of h') fun _ _ z => z
theorem pe_bopTS (c : OpT X.K C f op "str") (F : FnOk X.prog X.w X.K X.mg X.base CX k f fd ps sp) (hr : Room k X.A) (hb : Binds X.K fd ps []) (hx : ∀ σ, PassesAt CX X σ (E σ)) (ha : PE X a ta) (hb2 : PE X b tb) : PE X (.BinOp a op b pos) (tTxtS C sp E ta tb) := by
  refine ⟨fun pins s σ H Q I h => wpAny_BinOp (thn (ha.run pins s σ H _ I h) fun v s1 ⟨x, H1, I1, rx, q1⟩ => thn (hb2.run pins s1 σ H1 _ I1 q1) fun u s2 ⟨y, H2, I2, ry, a, dx, fs, z, ex, ey, ea, q⟩ => ?_)⟩
  subst ex ey
  obtain rfl : v = Value.ref a := rx
  obtain ⟨t, rfl⟩ := ry
  exact run_opS (y := a) c F hr hb (hx σ) I2 ea q
end
section
variable {X : Cx} {CX : CXT} {k : Nat} {C f : Addr} {fd : FuncData} {ps : List Str} {sp : Sp} {E : XK} {op : Operator} {a b : Expr} {ta tb : TE} {pos : Pos}
theorem pe_bopT (c : OpT X.K C f op "str") (F : FnOk X.prog X.w X.K X.mg X.base CX k f fd ps sp) (hr : Room k X.A) (hb : Binds X.K fd ps []) (hx : Passes CX X E) (ha : PE X a ta) (hb2 : PE X b tb) : PE X (.BinOp a op b pos) (tTxtS C sp (fun _ => E) ta tb) :=
  pe_bopTS c F hr hb (fun σ pins H s e s' I h => hx pins σ H s e s' I h) ha hb2
end
/-! ### z + a, z a text: __radd__ -/
structure RadC (K : PySem.W.Frag) (C f : Addr) : Prop where
  sf : PySem.W.selfFirst K C = true
  add : ∃ g : Addr, PySem.W.findIn K (.ref C) (PySem.dunder "add") = some (some (.ref g))
  at_ : PySem.W.findIn K (.ref C) (PySem.dunderR "add") = some (some (.ref f))
  fn : PySem.W.isFn K (.ref f) = true
section
open PySem.W PySem.Calls
variable {prog : Program} {w : World} {A : Around} {E : Value → Shared → Prop} {s : Shared} {K : PySem.W.Frag} {x C f : Addr} {ox : Obj} {od : Option Obj}
theorem rad_run {z : Str} {t : PySem.Tok} {Q : Value → Shared → Prop} (X : K.In s.heap) (I : PySem.W.InstAt s.heap x ox C od) (c : RadC K C f)
    (h : wpAny (model prog w) A (call (.ref f) [.ref x, .str z t]) (PySem.W.CmpBack Q) E s) : wpAny (model prog w) A (binaryOp .Add (.str z t) (.ref x)) Q E s := by
  obtain ⟨cd, rest, hcd, hm⟩ := PySem.W.ksp_first c.sf
  obtain ⟨gm, hg⟩ := c.add
  have one := PySem.W.ksp_try X I c.at_ c.fn h
  obtain ⟨hh, g, d, tt, os⟩ := s
  have L1 : Looks (model prog w) hh (typeOf (.str z t)) (.type "str") := Looks.of_pure rfl
  have L2 : Looks (model prog w) hh (typeOf (.ref x)) (.ref C) := I.type
  have L3 : Looks (model prog w) hh (fillsNumberSlot (.type "str") "add") false := Looks.of_pure PySem.noFill_str_add
  have L4 : Looks (model prog w) hh (fillsNumberSlot (.ref C) "add") true := fills_K X hcd hm hg
  have hne : (Value.type "str" == Value.ref C) = false := Bool.eq_false_iff.mpr fun q => by cases beq_iff_eq.mp q
  have hi : Operator.Add.info = ("+", "add") := rfl
  simp only [binaryOp, hi]
  refine wpAny_holding (wpAny_bind ?_)
  unfold binaryOp1
  refine wpAny_bind (L1.at (wpAny_bind (L2.at (wpAny_bind (L3.at ?_)))))
  simp only [hne, Bool.false_eq_true, if_false]
  ksp_lk
  refine wpAny_mono one (fun r s' hr' => ?_) fun _ _ e => e
  obtain ⟨v, rfl, hq⟩ := hr'
  first
    | exact wpAny_bind (wpAny_rule (wpAny_pure (wpAny_pure hq)))
    | (ksp_lk; exact hq)
end
section
variable {X : Cx} {CX : CXT} {k : Nat} {C f : Addr} {fd : FuncData} {ps : List Str} {sp : Sp} {E : L2.St → XK} {a b : Expr} {ta tb : TE} {pos : Pos}
def tRadS (C : Addr) (sp : Sp) (E : L2.St → XK) (ta tb : TE) : TE := fun σ H Q => ta σ H fun x H1 => tb σ H1 fun y H2 => ∃ a dx fs z, x = .str z ∧ y = .ref a ∧ H2 a = some (.ins C dx fs) ∧ sp [.ref a, .str z] H2 Q (E σ)
theorem pe_radS (c : RadC X.K C f) (F : FnOk X.prog X.w X.K X.mg X.base CX k f fd ps sp) (hr : Room k X.A) (hb : Binds X.K fd ps []) (hx : ∀ σ, PassesAt CX X σ (E σ)) (ha : PE X a ta) (hb2 : PE X b tb) : PE X (.BinOp a .Add b pos) (tRadS C sp E ta tb) := by
  refine ⟨fun pins s σ H Q I h => wpAny_BinOp (thn (ha.run pins s σ H _ I h) fun v s1 ⟨x, H1, I1, rx, q1⟩ => thn (hb2.run pins s1 σ H1 _ I1 q1) fun u s2 ⟨y, H2, I2, ry, a, dx, fs, z, ex, ey, ea, q⟩ => ?_)⟩
  subst ex ey
  obtain ⟨t, rfl⟩ := rx
  obtain rfl : u = Value.ref a := ry
  obtain ⟨mA, O, _⟩ := ins_get I2.hok ea
  obtain ⟨od, J, _⟩ := O.look
  refine rad_run I2.kIn J c ?_
  exact wpAny_mono (run_fnS (us := [.ref a, .str z t]) (vs := [.ref a, .str z]) F hr hb (hx σ) I2 (.cons rfl (.cons ⟨t, rfl⟩ .nil)) q) (fun u' s' h' => cmpBack_of h') fun _ _ z => z
end
/-! ### a += z -/
structure InpC (K : PySem.W.Frag) (C f : Addr) (op : Operator) : Prop where
  sf : PySem.W.selfFirst K C = true
  at_ : PySem.W.findIn K (.ref C) (PySem.dunderI op.info.2) = some (some (.ref f))
  fn : PySem.W.isFn K (.ref f) = true
section
variable {X : Cx} {CX : CXT} {k : Nat} {C f : Addr} {fd : FuncData} {ps : List Str} {sp : Sp} {E : L2.St → XK} {op : Operator} {x : Str} {i : Nat} {e : Expr} {te : TE} {pos pos' : Pos}
/-- a name's own object op= a text, what it lets out being taken where it stands -/
def tAugTS (i : Nat) (C : Addr) (sp : Sp) (E : L2.St → XK) (te : TE) : TS := fun D σ H => ∃ a, σ[i]? = some (some (V.ref a)) ∧ te σ H fun y H1 => ∃ dx fs z, y = .str z ∧ H1 a = some (.ins C dx fs) ∧ sp [.ref a, .str z] H1 (fun v H2 => D.nx (σ.set i (some v)) H2) (E σ)
theorem ps_augTS (hN : X.N.Nodup) (hi : X.N[i]? = some x) (hx0 : Loc X.env.scope x) (c : InpC X.K C f op) (F : FnOk X.prog X.w X.K X.mg X.base CX k f fd ps sp) (hr : Room k X.A) (hb : Binds X.K fd ps []) (hx : ∀ σ, PassesAt CX X σ (E σ)) (he : PE X e te)
    (hf : X.fn x = true ∨ X.env.scope.names.lookup x = some .local := by first | exact .inl rfl | exact .inr rfl | assumption) : PS X (.AugAssign (.Name x pos') op e pos) (tAugTS i C sp E te) := by
  refine ⟨fun pins s σ H D I h => ?_⟩
  obtain ⟨a, e1, h⟩ := h
  obtain ⟨m, hn, hl⟩ := I.loc
  have vis : Vis X.env.scope x := hx0.elim (fun k => .inl k) fun k => .inr (.inl k)
  obtain ⟨u, r, l⟩ := hl i x _ hi e1 vis
  obtain rfl : u = Value.ref a := r
  refine wpAny_AugAssign_Name ?_
  have go : wpAny (model X.prog X.w) X.A (eval e X.env) (fun w s₂ => wpAny (model X.prog X.w) X.A (inplaceOp op (.ref a) w) (fun r s₃ => wpAny (model X.prog X.w) X.A (storeName X.env x r) (fun _ => SP X pins D .next) X.xe s₃) X.xe s₂) X.xe s := by
    refine thn (he.run pins s σ H _ I h) fun w s1 ⟨y, H1, I1, r1, dx, fs, z, ey, ea, q⟩ => ?_
    subst ey
    obtain ⟨t, rfl⟩ := r1
    obtain ⟨m1, fr⟩ := I1.fr
    obtain ⟨mA, O, _⟩ := ins_get I1.hok ea
    obtain ⟨od, J, _⟩ := O.look
    have run := PySem.W.ksp_inplace (b := .str z t) fr I1.ok.mod.kin J c.sf c.at_ c.fn (wpAny_mono (run_fnS (us := [.ref a, .str z t]) (vs := [.ref a, .str z]) F hr hb (hx σ) I1 (.cons rfl (.cons ⟨t, rfl⟩ .nil)) q) (fun u' s' h' => cmpBack_of h') fun _ _ z => z)
    exact thn run fun z s2 ⟨zv, H2, I2, r2, q2⟩ => store_ok I2 hN hi hx0 r2 (fun s3 I3 => ⟨_, H2, I3, q2⟩) hf
  rcases l with ⟨hk, hm⟩ | ⟨hk, c, hc, hcell⟩
  · exact wpAny_loadName_local I.ok.kind hk hn hm go
  · have no : ∀ q : NameKind, X.env.scope.names.lookup x = some .free → X.env.scope.names.lookup x = some q → q = .free := fun q h1 h2 => (Option.some.inj (h1.symm.trans h2)).symm
    rcases hk with hk | hk
    · exact wpAny_loadName_cell I.ok.kind hk hc hcell go
    · rcases hx0 with k | k
      · exact nomatch no _ hk k
      · exact nomatch no _ hk k
end
/-! ### t[::-1] -/
section
variable {prog : Program} {w : World} {A : Around} {E : Value → Shared → Prop} {s : Shared}
theorem adjust_rev (n : Nat) : Builtin.Slice.sliceAdjust none none (-1) (n : Int) = ((n : Int) - 1, -1) := rfl
theorem places_rev (n : Nat) : Builtin.Slice.slicePlaces ((n : Int) - 1) (-1) (-1) = n := by
  unfold Builtin.Slice.slicePlaces
  rw [if_neg (by decide)]
  by_cases h : (n : Int) - 1 > -1
  · rw [if_pos h]
    have : ((n : Int) - 1 - -1 - 1) / (- -1) = (n : Int) - 1 := by
      rw [show (- -1 : Int) = 1 by decide, Int.ediv_one]
      omega
    rw [this]
    omega
  · rw [if_neg h]
    omega
theorem fm_congr {f g : Nat → Option Value} : ∀ {l : List Nat}, (∀ x ∈ l, f x = g x) → l.filterMap f = l.filterMap g
  | [], _ => rfl
  | y :: r, h => by
    have h1 := h y List.mem_cons_self
    have h2 := fm_congr (l := r) fun x hx => h x (List.mem_cons_of_mem _ hx)
    cases e : g y with
    | none => rw [List.filterMap_cons_none (h1.trans e), List.filterMap_cons_none e, h2]
    | some v => rw [List.filterMap_cons_some (h1.trans e), List.filterMap_cons_some e, h2]
theorem pick_rev (xs : Array Value) : ((List.range xs.size).filterMap fun (k : Nat) => xs[((xs.size : Int) - 1 + (k : Int) * -1).toNat]?).toArray = xs.toList.reverse.toArray := by
  have e : ∀ k ∈ List.range xs.size, (fun (k : Nat) => xs[((xs.size : Int) - 1 + (k : Int) * -1).toNat]?) k = (xs.toList.reverse)[k]? := fun k hk => by
    have hk := List.mem_range.mp hk
    have e1 : ((xs.size : Int) - 1 + (k : Int) * -1).toNat = xs.size - 1 - k := by omega
    show xs[((xs.size : Int) - 1 + (k : Int) * -1).toNat]? = _
    rw [e1, List.getElem?_reverse (by simpa using hk), Array.getElem?_toList, Array.length_toList]
  rw [fm_congr e]
  congr 1
  have all : ∀ l : List Value, (List.range l.length).filterMap (fun k => l[k]?) = l := fun l => by
    induction l with
    | nil => rfl
    | cons y r ih =>
      rw [List.length_cons, List.range_succ_eq_map, List.filterMap_cons_some (f := fun k => (y :: r)[k]?) (b := y) rfl, List.filterMap_map]
      exact congrArg (y :: ·) ih
  have := all xs.toList.reverse
  rw [List.length_reverse, Array.length_toList] at this
  exact this
theorem applied_rev {sl : Addr} {vs : Value} {n : Nat} {Q : Int × Int × Nat → Shared → Prop} (hs : s.heap.IsSliceOf sl .none .none vs) (pv : IsPart vs (some (-1))) (h : Q ((n : Int) - 1, -1, n) s) : wpAny (model prog w) A (Builtin.Slice.sliceApplied (.ref sl) (pure (n : Int))) Q E s := by
  obtain ⟨os, hos, hcs, hds⟩ := id hs
  unfold Builtin.Slice.sliceApplied Builtin.Slice.sliceFields
  refine wpAny_bind (wpAny_bind (wpAny_field hos hds (x := .none) rfl (wpAny_bind (wpAny_field hos hds (x := .none) rfl (wpAny_bind (wpAny_field hos hds (x := vs) rfl (wpAny_pure ?_)))))))
  refine wpAny_bind (HT.slicePart_ pv ?_)
  show wpAny _ _ (if ((-1 : Int) == 0) = true then _ else _) _ _ s
  rw [if_neg (by decide)]
  refine wpAny_bind (slicePart_none (wpAny_bind (slicePart_none (wpAny_bind (wpAny_pure ?_)))))
  show wpAny _ _ (pure ((n : Int) - 1, (-1 : Int), Builtin.Slice.slicePlaces ((n : Int) - 1) (-1) (-1))) _ _ s
  rw [places_rev]
  exact wpAny_pure h
theorem getItem_rev {t sl : Addr} {items : Array Value} {vs : Value} {Q : Value → Shared → Prop} (ht : IsTup s.heap t items) (hs : s.heap.IsSliceOf sl .none .none vs) (pv : IsPart vs (some (-1)))
    (h : Q (.ref s.heap.objs.size) { s with heap := s.heap.push { cls := .type "tuple", data := .seq items.toList.reverse.toArray } }) (hsz : items.size ≤ sizeLine) : wpAny (model prog w) A (getItem (.ref t) (.ref sl)) Q E s := by
  have fits : sizeOk (.seq items.toList.reverse.toArray) := by
    show items.toList.reverse.toArray.size ≤ sizeLine
    rw [List.size_toArray, List.length_reverse, Array.length_toList]
    exact hsz
  have hTs : s.TypeIs (.ref sl) "slice" := by obtain ⟨os, hos, hcs, _⟩ := hs; exact ⟨os, hos, hcs⟩
  unfold getItem
  try with_reducible refine wpAny_holding ?_
  first | refine wpAny_bind (wpAny_pure ?_) | skip
  refine wpAny_bind (wpAny_sequenceKey ht.typeIs (by decide) ?_)
  refine wpAny_bind (wpAny_callSpecial?_slot (name := Str.ofString "__getitem__") ht.typeIs PyProof.Rows.slot_tuple_getitem
    (wpAny_call_entry PyProof.Rows.slot_tuple_getitem ht.typeIs entry_tuple_getitem ?_ (args_tuple_getitem _ _)))
  refine wpAny_bind (m := Builtin.Tuple.tupleItemsOf (.ref t)) (tupleItemsOf_ ht (wpAny_bind (wpAny_typeOf hTs ?_)))
  rw [if_pos (by decide)]
  refine wpAny_bind (applied_rev hs pv ?_)
  show wpAny _ _ (if (((items.size : Int) - 1) == 0 && (-1 : Int) == 1 && items.size == items.size) = true then _ else _) _ _ s
  rw [if_neg (by rw [show ((-1 : Int) == 1) = false from rfl, Bool.and_false, Bool.false_and]; decide), pick_rev]
  first
    | exact wpAny_bind (m := Builtin.Tuple.tupleExact _) (wpAny_newObj_type (wpAny_pure ⟨_, rfl, wpAny_pure h⟩) fits)
    | exact wpAny_bind (wpAny_bind (m := Builtin.Tuple.tupleExact _) (wpAny_newObj_type (wpAny_pure (wpAny_pure ⟨_, rfl, wpAny_pure h⟩)) fits))
    | exact wpAny_bind (wpAny_bind (m := Builtin.Tuple.tupleExact _) (wpAny_newObj_type (wpAny_pure ⟨_, rfl, wpAny_pure h⟩) fits))
end
/-- t[::-1] -/
def tRevT (K : PySem.W.Frag) (te : TE) : TE := fun σ H Q => te σ H fun x H1 => ∃ a xs, x = .ref a ∧ SqT K H1 a xs ∧ ∀ p, H1 p = none → Q (.ref p) (upd H1 p (.tup xs.reverse))
theorem pe_revT {X : Cx} {e : Expr} {te : TE} {k : Nat} {p1 p2 p3 pos : Pos} (he : PE X e te) : PE X (.Subscript e (.Slice none none (some (.UnaryOp .USub (.Constant (.int 1) k p1) p2)) p3) pos) (tRevT X.K te) := by
  refine ⟨fun pins s σ H Q I h => Subscript_ (thn (he.run pins s σ H _ I h) fun v s1 ⟨x, H1, I1, r1, a, xs, ex, hx, q⟩ => ?_)⟩
  subst ex
  obtain rfl : v = Value.ref a := r1
  have step : PO X (some (.UnaryOp .USub (.Constant (.int 1) k p1) p2)) (tPart (tUn (rU fun i => .int (-i)) (tC (.int 1)))) := po_some (pe_un un_neg pe_int)
  refine wpAny_Slice (thn (po_none.run pins s1 σ H1 (fun o H2 => o = none ∧ H2 = H1) I1 ⟨rfl, rfl⟩) fun vl s2 ⟨l, H2, I2, pl, el, e2⟩ => ?_)
  subst el e2
  refine thn (po_none.run pins s2 σ H2 (fun o H3 => o = none ∧ H3 = H2) I2 ⟨rfl, rfl⟩) fun vu s3 ⟨u, H3, I3, pu, eu, e3⟩ => ?_
  subst eu e3
  refine thn (step.run pins s3 σ H3 (fun o H4 => o = some (-1) ∧ H4 = H3) I3 ⟨1, rfl, -1, rfl, rfl, rfl⟩) fun vs s4 ⟨o, H4, I4, pv, eo, e4⟩ => ?_
  subst eo e4
  obtain rfl : vl = Value.none := by cases pl; rfl
  obtain rfl : vu = Value.none := by cases pu; rfl
  have I5 : Inv X pins σ H4 { s4 with heap := s4.heap.push { cls := .type "slice", data := .fields #[.none, .none, vs] } } := I4.kept (t' := s4.toks) fun b ob q => Heap.get?_push_of_some _ q
  obtain ⟨its, r, ht, hz⟩ := I5.tuple hx
  have hlen := r.length
  show wpAny (model X.prog X.w) X.A (subscriptTail e (.Slice none none (some (.UnaryOp .USub (.Constant (.int 1) k p1) p2)) p3) (.ref a) (.ref s4.heap.objs.size)) (EP X pins σ Q) X.xe { s4 with heap := s4.heap.push { cls := .type "slice", data := .fields #[.none, .none, vs] } }
  refine tail_any (ops := [.ref a, .ref s4.heap.objs.size]) ht.typeIs PyProof.Rows.slot_tuple_getitem.lookup ?_ (by with_unfolding_all rfl)
  refine getItem_rev ht (Heap.IsSliceOf.new _ .none .none vs) pv ?_ (by rw [List.size_toArray, ← hlen]; exact hz)
  refine ⟨.ref _, _, I5.laid (t' := s4.toks) (o := .tup xs.reverse) (fun b ob q => Heap.get?_push_of_some _ q) (Nat.le_refl _) ?_, rfl, q _ (I5.hok.fresh (Nat.le_refl _))⟩
  exact ⟨by rw [List.length_reverse]; exact hz, _, r.reverse, IsTup.new _ _⟩
/-! ### defs of own classes, ready to be called -/
structure CalT (P : Program) (w : World) (K : PySem.W.Frag) (mg : Str → Option Value) (base : Heap) (CX : CXT) (k : Nat) (C : Addr) (op : Operator) (f : Addr) (fd : FuncData) (ps : List Str) (sp : Sp) : Prop extends CalB P w K mg base CX k f fd ps sp where
  ot : OpT K C f op "str"
structure CalRad (P : Program) (w : World) (K : PySem.W.Frag) (mg : Str → Option Value) (base : Heap) (CX : CXT) (k : Nat) (C f : Addr) (fd : FuncData) (ps : List Str) (sp : Sp) : Prop extends CalB P w K mg base CX k f fd ps sp where
  ra : RadC K C f
structure CalInp (P : Program) (w : World) (K : PySem.W.Frag) (mg : Str → Option Value) (base : Heap) (CX : CXT) (k : Nat) (C : Addr) (op : Operator) (f : Addr) (fd : FuncData) (ps : List Str) (sp : Sp) : Prop extends CalB P w K mg base CX k f fd ps sp where
  ip : InpC K C f op
structure CalInv (P : Program) (w : World) (K : PySem.W.Frag) (mg : Str → Option Value) (base : Heap) (CX : CXT) (k : Nat) (C f : Addr) (fd : FuncData) (ps : List Str) (sp : Sp) : Prop extends CalB P w K mg base CX k f fd ps sp where
  iv : InvC K C f
/-- one or the other reading of the same expression -/
def tEither (t1 t2 : TE) : TE := fun σ H Q => t1 σ H Q ∨ t2 σ H Q
theorem pe_either {X : Cx} {e : Expr} {t1 t2 : TE} (h1 : PE X e t1) (h2 : PE X e t2) : PE X e (tEither t1 t2) := ⟨fun pins s σ H Q I h => h.elim (h1.run pins s σ H Q I) (h2.run pins s σ H Q I)⟩
/-- what isinstance asks of an own class -/
structure IsC (K : PySem.W.Frag) (C : Addr) : Prop where
  ha : PySem.W.findIn K (.ref C) "__class__" = some (some (.builtin "object.__class__"))
  hn : PySem.W.specialIn K (.builtin "object.__class__") "__get__" = some (some (.builtin "getset_descriptor.__get__"))
  tk : PySem.W.takesIn K (.builtin "object.__class__") = some true
  hm : PySem.W.mroIn K C (.type "object") = some true
theorem ty_ins {K : PySem.W.Frag} {H : Hp} {a C dx : Addr} {fs : List (Str × V)} (e : H a = some (.ins C dx fs)) (cl : Cls K C) (i : IsC K C) : TyX K H (.ref a) (.ref C) := .base (.ins e cl i.ha i.hn i.tk i.hm)
theorem kit_self {K : PySem.W.Frag} {C : Addr} : PySem.W.kitOne K (.ref C) (.ref C) = some true := by
  unfold PySem.W.kitOne
  rw [if_pos (beq_iff_eq.mpr rfl)]
end El

set_option Elab.async false
set_option linter.all false
set_option maxRecDepth 100000
set_option maxHeartbeats 4000000
/-! Own words: plain defs with defaults, called with and without them. -/
namespace El
open PySem PySem.Spec PyProof.Rows L2
structure CalD (P : Program) (w : World) (K : PySem.W.Frag) (mg : Str → Option Value) (base : Heap) (CX : CXT) (k : Nat) (x : Str) (f : Addr) (fd : FuncData) (ps : List Str) (dvs : List V) (sp : Sp) : Prop extends Cal P w K mg base CX k x f fd ps sp where
  bd : ∃ ds, Vals dvs ds ∧ Binds K fd ps ds
section
variable {X : Cx} {CX : CXT} {k : Nat} {f : Addr} {fd : FuncData} {ps : List Str} {dvs : List V} {sp : Sp} {E : XK} {x : Str} {p pos : Pos} {e : Expr} {es : List Expr} {t : TA}
theorem pe_callD (c : CalD X.prog X.w X.K X.mg X.base CX k x f fd ps dvs sp) (hr : Room k X.A) (hg : Gl X x) (hx : Passes CX X E) (ha : PA X (e :: es) t) (hdb : (x == ("__debug__" : Str)) = false := by decide)
    (he : starEach (e :: es) X.env = (false, eval e X.env) :: starEach es X.env := by rfl) (hpl : (backTo pos (starEach es X.env)).any (·.1) = false := by rfl) :
    PE X (.Call (.Name x p) (e :: es) [] pos) (tCall sp dvs E t) := by
  obtain ⟨ds, hd, hb⟩ := c.bd
  exact pe_call c.G hr hg c.m c.kp hb hd hx ha hdb he hpl
end
theorem binds_nil {K : PySem.W.Frag} {fd : FuncData} {ps : List Str} (h : ∃ ds, Vals ([] : List V) ds ∧ Binds K fd ps ds) : Binds K fd ps [] := by
  obtain ⟨ds, hv, hb⟩ := h
  cases hv
  exact hb
end El

set_option Elab.async false
set_option linter.all false
set_option maxRecDepth 100000
/-! Own mathematics: a line as a list of codes, its tokens. -/
namespace El
abbrev LT : List Nat := [97, 98, 99, 100, 101, 102, 103, 104, 105, 106, 107, 108, 109, 110, 111, 112, 113, 114, 115, 116, 117, 118, 119, 120, 121, 122]
abbrev DG : List Nat := [48, 49, 50, 51, 52, 53, 54, 55, 56, 57]
abbrev SG : List (List Nat) := [[60], [60, 61], [61, 61], [33, 61], [62, 61], [62]]
abbrev MK : List (List Nat) := [[40], [41], [44], [59], [58]]
def isL (c : Nat) : Bool := decide (c ∈ LT)
def isD (c : Nat) : Bool := decide (c ∈ DG)
theorem isL_iff {c : Nat} : isL c = true ↔ 97 ≤ c ∧ c ≤ 122 := by
  unfold isL
  rw [decide_eq_true_iff]
  simp only [LT, List.mem_cons, List.not_mem_nil, or_false]
  omega
theorem isD_iff {c : Nat} : isD c = true ↔ 48 ≤ c ∧ c ≤ 57 := by
  unfold isD
  rw [decide_eq_true_iff]
  simp only [DG, List.mem_cons, List.not_mem_nil, or_false]
  omega
/-- a sign or a mark -/
def inSM (p : List Nat) : Bool := decide (p ∈ SG) || decide (p ∈ MK)
/-- how long the token is with which a rest begins; 0: none -/
def tokLen : List Nat → Nat
  | [] => 0
  | c :: r => if isL c then ((c :: r).takeWhile isL).length else if isD c then ((c :: r).takeWhile isD).length
    else if c = 45 then (if (r.takeWhile isD).length = 0 then 0 else 1 + (r.takeWhile isD).length)
    else if inSM ((c :: r).take 2) then ((c :: r).take 2).length else if inSM [c] then 1 else 0
theorem tokLen_cons (c : Nat) (r : List Nat) : tokLen (c :: r) = if isL c then ((c :: r).takeWhile isL).length else if isD c then ((c :: r).takeWhile isD).length
    else if c = 45 then (if (r.takeWhile isD).length = 0 then 0 else 1 + (r.takeWhile isD).length)
    else if inSM ((c :: r).take 2) then ((c :: r).take 2).length else if inSM [c] then 1 else 0 := rfl
theorem ite_le {c : Prop} [Decidable c] {a b n : Nat} (h1 : a ≤ n) (h2 : b ≤ n) : (if c then a else b) ≤ n := by split <;> assumption
theorem tokLen_le : ∀ r : List Nat, tokLen r ≤ r.length
  | [] => Nat.le_refl _
  | c :: r => by
    have h1 : ∀ (f : Nat → Bool) (l : List Nat), (l.takeWhile f).length ≤ l.length := fun f l => (List.takeWhile_sublist f).length_le
    have a := h1 isL (c :: r)
    have b := h1 isD (c :: r)
    have d := h1 isD r
    have e : ((c :: r).take 2).length ≤ (c :: r).length := by rw [List.length_take]; omega
    have hn : (c :: r).length = r.length + 1 := List.length_cons
    exact ite_le a (ite_le b (ite_le (ite_le (by omega) (by omega)) (ite_le e (ite_le (by omega) (by omega)))))
/-- the tokens of a rest that begins at a column, or the column of the first strange sign -/
def splitN : Nat → List Nat → Nat → Except Nat (List (List Nat × Nat))
  | 0, _, _ => .ok []
  | _ + 1, [], _ => .ok []
  | n + 1, c :: r, col => if 0 < tokLen (c :: r) then
      (match splitN n ((c :: r).drop (tokLen (c :: r))) (col + tokLen (c :: r)) with
        | .ok l => .ok (((c :: r).take (tokLen (c :: r)), col) :: l)
        | .error e => .error e)
    else if c = 32 then splitN n r (col + 1) else .error col
def splitL (r : List Nat) (col : Nat) : Except Nat (List (List Nat × Nat)) := splitN r.length r col
theorem splitN_more : ∀ (n m : Nat) (r : List Nat) (col : Nat), r.length ≤ n → n ≤ m → splitN m r col = splitN n r col
  | 0, 0, _, _, _, _ => rfl
  | 0, m + 1, [], _, _, _ => rfl
  | 0, m + 1, c :: r, _, h, _ => absurd h (by simp)
  | n + 1, 0, _, _, _, h => absurd h (by omega)
  | n + 1, m + 1, [], _, _, _ => rfl
  | n + 1, m + 1, c :: r, col, h, h2 => by
    rw [List.length_cons] at h
    unfold splitN
    split
    · rename_i ht
      rw [splitN_more n m _ _ (by rw [List.length_drop, List.length_cons]; omega) (by omega)]
    · rw [splitN_more n m r _ (by omega) (by omega)]
theorem splitL_tok {r : List Nat} {col : Nat} (h : 0 < tokLen r) : splitL r col = match splitL (r.drop (tokLen r)) (col + tokLen r) with
    | .ok l => .ok ((r.take (tokLen r), col) :: l)
    | .error e => .error e := by
  cases r with
  | nil => exact absurd h (by simp [tokLen])
  | cons c r =>
    unfold splitL
    rw [List.length_cons]
    show splitN (r.length + 1) (c :: r) col = _
    rw [splitN, if_pos h, splitN_more _ r.length _ _ (Nat.le_refl _) (by rw [List.length_drop, List.length_cons]; omega)]
theorem splitL_space {r : List Nat} {col : Nat} : splitL (32 :: r) col = splitL r (col + 1) := by
  have h : tokLen (32 :: r) = 0 := by
    rw [tokLen_cons]
    rw [if_neg (by decide), if_neg (by decide), if_neg (by decide)]
    have : inSM ((32 :: r).take 2) = false := by
      cases r with
      | nil => decide
      | cons a r => simp [inSM]
    rw [this]
    rfl
  unfold splitL
  rw [List.length_cons]
  show splitN (r.length + 1) (32 :: r) col = _
  rw [splitN, if_neg (by rw [h]; decide), if_pos rfl]
theorem splitL_bad {c : Nat} {r : List Nat} {col : Nat} (h : tokLen (c :: r) = 0) (hc : c ≠ 32) : splitL (c :: r) col = .error col := by
  unfold splitL
  rw [List.length_cons]
  show splitN (r.length + 1) (c :: r) col = _
  rw [splitN, if_neg (by rw [h]; decide), if_neg hc]
theorem splitL_nil {col : Nat} : splitL [] col = .ok [] := rfl
theorem splitL_spaces : ∀ (g : Nat) {r : List Nat} {col : Nat}, splitL (List.replicate g 32 ++ r) col = splitL r (col + g)
  | 0, _, _ => rfl
  | g + 1, r, col => by
    rw [List.replicate_succ, List.cons_append, splitL_space, splitL_spaces g, show col + 1 + g = col + (g + 1) by omega]

/-! ### tokens -/
/-- a word, an integer, a sign, a mark -/
inductive Tok : List Nat → Prop where
  | word {p : List Nat} (h0 : p ≠ []) (h : ∀ c ∈ p, isL c = true) : Tok p
  | int {p : List Nat} (h0 : p ≠ []) (h : ∀ c ∈ p, isD c = true) : Tok p
  | neg {p : List Nat} (h0 : p ≠ []) (h : ∀ c ∈ p, isD c = true) : Tok (45 :: p)
  | sm {p : List Nat} (h : inSM p = true) : Tok p
/-- no token begins so: a strange sign, alone -/
def Strange (c : Nat) : Prop := isL c = false ∧ isD c = false ∧ c ≠ 32 ∧ inSM [c] = false
/-- two pieces that would run together -/
def touchB (p q : List Nat) : Bool :=
  (isL (p.getLastD 0) && isL (q.headD 0)) || (isD (q.headD 0) && (isD (p.getLastD 0) || decide (p = [45]))) || (decide (q.headD 0 = 61) && (decide (p = [60]) || decide (p = [62]) || decide (p = [33]) || decide (p = [61])))
/-- what stands behind a piece does not run together with it -/
def Sep (p s : List Nat) : Prop := ∀ c r, s = c :: r → c = 32 ∨ touchB p [c] = false
theorem takeWhile_app {f : Nat → Bool} : ∀ {p s : List Nat}, (∀ c ∈ p, f c = true) → (∀ c r, s = c :: r → f c = false) → (p ++ s).takeWhile f = p
  | [], [], _, _ => rfl
  | [], c :: r, _, h => by
    rw [List.nil_append, List.takeWhile_cons, h c r rfl]
    rfl
  | a :: p, s, h1, h2 => by
    rw [List.cons_append, List.takeWhile_cons, h1 a List.mem_cons_self, if_pos rfl, takeWhile_app (fun c hc => h1 c (List.mem_cons_of_mem _ hc)) h2]
theorem getLastD_mem : ∀ {p : List Nat}, p ≠ [] → p.getLastD 0 ∈ p
  | [], h => absurd rfl h
  | [a], _ => List.mem_cons_self
  | a :: b :: r, _ => List.mem_cons_of_mem _ (getLastD_mem (p := b :: r) (by simp))
theorem touch_l {p : List Nat} {c : Nat} (h0 : p ≠ []) (h : ∀ c ∈ p, isL c = true) (ht : touchB p [c] = false) : isL c = false := by
  unfold touchB at ht
  rw [h _ (getLastD_mem h0)] at ht
  cases hc : isL c with
  | false => rfl
  | true => rw [show [c].headD 0 = c from rfl, hc] at ht; simp at ht
theorem touch_d {p : List Nat} {c : Nat} (h0 : p ≠ []) (h : isD (p.getLastD 0) = true) (ht : touchB p [c] = false) : isD c = false := by
  unfold touchB at ht
  rw [h] at ht
  cases hc : isD c with
  | false => rfl
  | true => rw [show [c].headD 0 = c from rfl, hc] at ht; simp at ht
theorem ld_l {c : Nat} (h : isL c = true) : isD c = false ∧ c ≠ 45 ∧ c ≠ 32 := by
  rw [isL_iff] at h
  refine ⟨?_, by omega, by omega⟩
  cases hd : isD c with
  | false => rfl
  | true => rw [isD_iff] at hd; omega
theorem ld_d {c : Nat} (h : isD c = true) : isL c = false ∧ c ≠ 45 ∧ c ≠ 32 := by
  rw [isD_iff] at h
  refine ⟨?_, by omega, by omega⟩
  cases hd : isL c with
  | false => rfl
  | true => rw [isL_iff] at hd; omega
theorem sm_cases {p : List Nat} (h : inSM p = true) : p ∈ SG ++ MK := by
  unfold inSM at h
  rw [Bool.or_eq_true, decide_eq_true_iff, decide_eq_true_iff] at h
  exact List.mem_append.mpr h
theorem sm2 {c d : Nat} (h : inSM [c, d] = true) : d = 61 ∧ (c = 60 ∨ c = 61 ∨ c = 33 ∨ c = 62) := by
  have h := sm_cases h
  simp at h
  omega
/-- the token that stands ahead is read -/
theorem tokLen_tok {p s : List Nat} (h : Tok p) (hs : Sep p s) : tokLen (p ++ s) = p.length := by
  cases h with
  | word h0 h =>
    cases p with
    | nil => exact absurd rfl h0
    | cons c p =>
      have hc := h c List.mem_cons_self
      show tokLen (c :: (p ++ s)) = _
      rw [tokLen_cons]
      rw [if_pos hc, ← List.cons_append, takeWhile_app h fun d r e => ?_]
      rcases hs d r e with rfl | ht
      · rfl
      · exact touch_l h0 h ht
  | int h0 h =>
    cases p with
    | nil => exact absurd rfl h0
    | cons c p =>
      have hc := h c List.mem_cons_self
      have hn := ld_d hc
      show tokLen (c :: (p ++ s)) = _
      rw [tokLen_cons]
      rw [if_neg (by rw [hn.1]; decide), if_pos hc, ← List.cons_append, takeWhile_app h fun d r e => ?_]
      rcases hs d r e with rfl | ht
      · rfl
      · exact touch_d h0 (h _ (getLastD_mem h0)) ht
  | @neg p h0 h =>
    show tokLen (45 :: (p ++ s)) = _
    rw [tokLen_cons]
    rw [if_neg (by decide), if_neg (by decide), if_pos rfl, takeWhile_app h fun d r e => ?_]
    · rw [if_neg, List.length_cons]
      · omega
      · cases p with
        | nil => exact absurd rfl h0
        | cons a p => simp
    · rcases hs d r e with rfl | ht
      · rfl
      · refine touch_d (p := 45 :: p) (by simp) ?_ ht
        cases p with
        | nil => exact absurd rfl h0
        | cons a p => exact h _ (getLastD_mem (p := a :: p) (by simp))
  | sm h =>
    have hm := sm_cases h
    simp only [SG, MK, List.cons_append, List.nil_append, List.mem_cons, List.not_mem_nil, or_false] at hm
    have one : ∀ c : Nat, isL c = false → isD c = false → c ≠ 45 → inSM [c] = true → (∀ d r, s = d :: r → inSM [c, d] = false) → tokLen ([c] ++ s) = 1 := fun c h1 h2 h3 h4 h5 => by
      show tokLen (c :: s) = 1
      rw [tokLen_cons]
      rw [if_neg (by rw [h1]; decide), if_neg (by rw [h2]; decide), if_neg h3]
      cases s with
      | nil => rw [if_pos (by exact h4)]; rfl
      | cons d r => rw [if_neg (by rw [show (c :: d :: r).take 2 = [c, d] from rfl, h5 d r rfl]; decide), if_pos h4]
    have two : ∀ c d : Nat, isL c = false → isD c = false → c ≠ 45 → inSM [c, d] = true → tokLen ([c, d] ++ s) = 2 := fun c d h1 h2 h3 h4 => by
      show tokLen (c :: d :: s) = 2
      rw [tokLen_cons]
      rw [if_neg (by rw [h1]; decide), if_neg (by rw [h2]; decide), if_neg h3, if_pos (by exact h4)]
      rfl
    have mk : ∀ c : Nat, (c ≠ 60 ∧ c ≠ 61 ∧ c ≠ 33 ∧ c ≠ 62) → ∀ d r, s = d :: r → inSM [c, d] = false := fun c hc d r e => by
      cases q : inSM [c, d] with
      | false => rfl
      | true => have := sm2 q; omega
    have lg : ∀ c : Nat, (c = 60 ∨ c = 62) → p = [c] → ∀ d r, s = d :: r → inSM [c, d] = false := fun c hc hp d r e => by
      cases q : inSM [c, d] with
      | false => rfl
      | true =>
        have := (sm2 q).1
        subst this
        rcases hs _ r e with h | ht
        · exact absurd h (by decide)
        · rw [hp] at ht
          rcases hc with rfl | rfl <;> exact absurd ht (by decide)
    rcases hm with rfl | rfl | rfl | rfl | rfl | rfl | rfl | rfl | rfl | rfl | rfl
    · exact one 60 (by decide) (by decide) (by decide) (by decide) (lg 60 (.inl rfl) rfl)
    · exact two 60 61 (by decide) (by decide) (by decide) (by decide)
    · exact two 61 61 (by decide) (by decide) (by decide) (by decide)
    · exact two 33 61 (by decide) (by decide) (by decide) (by decide)
    · exact two 62 61 (by decide) (by decide) (by decide) (by decide)
    · exact one 62 (by decide) (by decide) (by decide) (by decide) (lg 62 (.inr rfl) rfl)
    all_goals exact one _ (by decide) (by decide) (by decide) (by decide) (mk _ (by decide))
/-- a strange sign is no token -/
theorem tokLen_strange {c : Nat} {s : List Nat} (h : Strange c) (hs : Sep [c] s) : tokLen (c :: s) = 0 := by
  obtain ⟨h1, h2, h3, h4⟩ := h
  rw [tokLen_cons]
  rw [if_neg (by rw [h1]; decide), if_neg (by rw [h2]; decide)]
  by_cases hc : c = 45
  · subst hc
    rw [if_pos rfl]
    have : (s.takeWhile isD).length = 0 := by
      cases s with
      | nil => rfl
      | cons d r =>
        have : isD d = false := by
          rcases hs d r rfl with rfl | ht
          · rfl
          · cases q : isD d with
            | false => rfl
            | true => unfold touchB at ht; rw [show [d].headD 0 = d from rfl, q] at ht; simp at ht
        rw [List.takeWhile_cons, this]
        rfl
    rw [this]
    rfl
  · rw [if_neg hc, if_neg, if_neg (by rw [h4]; decide)]
    cases s with
    | nil => rw [show [c].take 2 = [c] from rfl, h4]; decide
    | cons d r =>
      rw [show (c :: d :: r).take 2 = [c, d] from rfl]
      intro q
      have q2 := sm2 q
      obtain ⟨rfl, q2⟩ := q2
      rcases hs _ r rfl with h | ht
      · exact absurd h (by decide)
      · rcases q2 with rfl | rfl | rfl | rfl <;> first | exact absurd ht (by decide) | exact absurd h4 (by decide)

/-! ### a line that is laid out of pieces, each behind a gap -/
def lay : List (Nat × List Nat) → List Nat → List Nat
  | [], t => t
  | (g, p) :: r, t => List.replicate g 32 ++ (p ++ lay r t)
def cols : Nat → List (Nat × List Nat) → List Nat
  | _, [] => []
  | c, (g, p) :: r => (c + g) :: cols (c + g + p.length) r
/-- pieces that stand together do not run together -/
def Apart : List (Nat × List Nat) → Prop
  | [] => True
  | [_] => True
  | (_, p) :: (g, q) :: r => (g = 0 → touchB p q = false) ∧ q ≠ [] ∧ Apart ((g, q) :: r)
theorem touch_head {p q : List Nat} (h : q ≠ []) : ∃ c r, q = c :: r ∧ touchB p q = touchB p [c] := by
  cases q with
  | nil => exact absurd rfl h
  | cons c r => exact ⟨c, r, rfl, rfl⟩
theorem sep_lay {g : Nat} {p : List Nat} {r : List (Nat × List Nat)} {t : Nat} (h : Apart ((g, p) :: r)) : Sep p (lay r (List.replicate t 32)) := by
  intro c s e
  cases r with
  | nil =>
    cases t with
    | zero => cases e
    | succ t => simp only [lay, List.replicate_succ] at e; injection e with e1 e2; exact .inl e1.symm
  | cons x r =>
    obtain ⟨g', q⟩ := x
    obtain ⟨h1, h2, _⟩ := h
    cases g' with
    | succ g' =>
      rw [lay, List.replicate_succ, List.cons_append] at e
      injection e with e1 e2
      exact .inl e1.symm
    | zero =>
      obtain ⟨d, r', rfl, ht⟩ := touch_head (p := p) h2
      rw [lay, List.replicate_zero, List.nil_append, List.cons_append] at e
      injection e with e1 e2
      subst e1
      exact .inr (by rw [← ht]; exact h1 rfl)
theorem Apart.tail {x : Nat × List Nat} {r : List (Nat × List Nat)} (h : Apart (x :: r)) : Apart r := by
  cases r with
  | nil => trivial
  | cons y r => exact h.2.2
theorem tok_ne {p : List Nat} (h : Tok p) : p ≠ [] := by
  cases h with
  | word h0 _ => exact h0
  | int h0 _ => exact h0
  | neg h0 _ => simp
  | sm h => intro e; subst e; exact absurd h (by decide)
theorem split_lay {t : Nat} : ∀ {xs : List (Nat × List Nat)} {c : Nat}, Apart xs → (∀ x ∈ xs, Tok x.2) → splitL (lay xs (List.replicate t 32)) c = .ok ((xs.map (·.2)).zip (cols c xs))
  | [], c, _, _ => by
    have := splitL_spaces t (r := []) (col := c)
    rw [List.append_nil] at this
    rw [lay, this]
    rfl
  | (g, p) :: r, c, ha, ht => by
    have hp := ht (g, p) List.mem_cons_self
    have hl := tokLen_tok hp (sep_lay (t := t) ha)
    have hpos : 0 < p.length := List.length_pos_iff.mpr (tok_ne hp)
    rw [lay, splitL_spaces, splitL_tok (by rw [hl]; exact hpos), hl, List.drop_left, List.take_left, split_lay ha.tail fun x hx => ht x (List.mem_cons_of_mem _ hx)]
    rfl
theorem split_bad {t : Nat} : ∀ {xs ys : List (Nat × List Nat)} {g s c : Nat}, Apart (xs ++ (g, [s]) :: ys) → (∀ x ∈ xs, Tok x.2) → Strange s → ∃ e, splitL (lay (xs ++ (g, [s]) :: ys) (List.replicate t 32)) c = .error e ∧ (cols c (xs ++ (g, [s]) :: ys))[xs.length]? = some e
  | [], ys, g, s, c, ha, _, hs => by
    refine ⟨c + g, ?_, rfl⟩
    rw [List.nil_append, lay, splitL_spaces]
    exact splitL_bad (tokLen_strange hs (sep_lay (t := t) ha)) hs.2.2.1
  | (g', p) :: xs, ys, g, s, c, ha, ht, hs => by
    have hp := ht (g', p) List.mem_cons_self
    have hl : tokLen (p ++ lay (xs ++ (g, [s]) :: ys) (List.replicate t 32)) = p.length := tokLen_tok hp (sep_lay (t := t) ha)
    have hpos : 0 < p.length := List.length_pos_iff.mpr (tok_ne hp)
    obtain ⟨e, h1, h2⟩ := split_bad (t := t) (xs := xs) (ys := ys) (g := g) (s := s) (c := c + g' + p.length) ha.tail (fun x hx => ht x (List.mem_cons_of_mem _ hx)) hs
    refine ⟨e, ?_, h2⟩
    rw [List.cons_append, lay, splitL_spaces, splitL_tok (by rw [hl]; exact hpos), hl, List.drop_left, List.take_left, h1]
theorem lay_tail : ∀ {gs : List (Nat × List Nat)} {t : List Nat}, lay gs t = lay gs [] ++ t
  | [], _ => rfl
  | (g, p) :: r, t => by rw [lay, lay, lay_tail (gs := r) (t := t), List.append_assoc, List.append_assoc]
theorem lay_snoc : ∀ {gs : List (Nat × List Nat)} {g : Nat} {p : List Nat}, lay (gs ++ [(g, p)]) [] = lay gs [] ++ (List.replicate g 32 ++ p)
  | [], g, p => by simp [lay]
  | (g', p') :: r, g, p => by rw [List.cons_append, lay, lay_snoc (gs := r), lay, List.append_assoc, List.append_assoc]
theorem cols_snoc : ∀ {gs : List (Nat × List Nat)} {c g : Nat} {p : List Nat}, cols c (gs ++ [(g, p)]) = cols c gs ++ [c + (lay gs []).length + g]
  | [], c, g, p => by simp [lay, cols]
  | (g', p') :: r, c, g, p => by
    rw [List.cons_append, cols, cols_snoc (gs := r), cols, lay, List.cons_append]
    have : c + g' + p'.length + (lay r []).length + g = c + (List.replicate g' 32 ++ (p' ++ lay r [])).length + g := by
      rw [List.length_append, List.length_append, List.length_replicate]
      omega
    rw [this]
theorem apart_snoc : ∀ {gs : List (Nat × List Nat)} {g : Nat} {p : List Nat}, Apart gs → p ≠ [] → (∀ x, gs.getLast? = some x → g = 0 → touchB x.2 p = false) → Apart (gs ++ [(g, p)])
  | [], _, _, _, _, _ => trivial
  | [(g', q)], g, p, _, h0, h => ⟨fun e => h (g', q) rfl e, h0, trivial⟩
  | (g', q) :: (g2, q2) :: r, g, p, ha, h0, h => by
    obtain ⟨h1, h2, h3⟩ := ha
    exact ⟨h1, h2, apart_snoc h3 h0 fun x hx e => h x (by rw [List.getLast?_cons_cons]; exact hx) e⟩
theorem cols_len : ∀ {gs : List (Nat × List Nat)} {c : Nat}, (cols c gs).length = gs.length
  | [], _ => rfl
  | (g, p) :: r, c => by rw [cols, List.length_cons, cols_len, List.length_cons]
end El

set_option Elab.async false
set_option linter.all false
set_option maxRecDepth 100000
set_option maxHeartbeats 4000000
/-! Own words: the text of an int as codes, a token, read back. -/
namespace El
open PySem PySem.Spec PyProof.Rows
theorem num_pos (n : Nat) : ((toString ((n : Nat) : Int) : String) : Str).cps.toList = (Nat.toDigits 10 n).map Char.toNat := PySem.W.KIN.signs_num n
theorem num_neg (n : Nat) : ((toString (Int.negSucc n) : String) : Str).cps.toList = 45 :: (Nat.toDigits 10 (n + 1)).map Char.toNat := by
  rw [signs_ofString]
  have e : (toString (Int.negSucc n) : String).toList = '-' :: (Nat.repr (n + 1)).toList := by
    show ("-" ++ Nat.repr (n + 1)).toList = _
    rw [String.toList_append]
    rfl
  rw [e, List.map_cons, Nat.toList_repr]
  rfl
theorem digits_all (n : Nat) : ∀ c ∈ (Nat.toDigits 10 n).map Char.toNat, 48 ≤ c ∧ c ≤ 57 := by
  intro c hc
  obtain ⟨ch, hch, e⟩ := List.mem_map.mp hc
  have r := digit_range (Nat.isDigit_of_mem_toDigits (by decide) (by decide) hch)
  rw [← e]
  exact r
theorem digits_ne (n : Nat) : (Nat.toDigits 10 n).map Char.toNat ≠ [] := by
  intro e
  exact Nat.toDigits_ne_nil (List.map_eq_nil_iff.mp e)
theorem digits_isD (n : Nat) : ∀ c ∈ (Nat.toDigits 10 n).map Char.toNat, isD c = true := fun c hc => isD_iff.mpr (digits_all n c hc)
theorem num_tok (i : Int) : Tok ((toString i : String) : Str).cps.toList := by
  cases i with
  | ofNat n => rw [show Int.ofNat n = ((n : Nat) : Int) from rfl, num_pos]; exact .int (digits_ne n) (digits_isD n)
  | negSucc n => rw [num_neg]; exact .neg (digits_ne _) (digits_isD _)
theorem num_last (i : Int) : isD (((toString i : String) : Str).cps.toList.getLastD 0) = true := by
  cases i with
  | ofNat n =>
    rw [show Int.ofNat n = ((n : Nat) : Int) from rfl, num_pos]
    exact digits_isD n _ (getLastD_mem (digits_ne n))
  | negSucc n =>
    rw [num_neg]
    have h := digits_ne (n + 1)
    have h2 := digits_isD (n + 1)
    generalize (Nat.toDigits 10 (n + 1)).map Char.toNat = xs at h h2
    cases xs with
    | nil => exact absurd rfl h
    | cons a r => exact h2 _ (getLastD_mem (p := a :: r) h)
theorem num_reads' {i : Int} (h : ((toString i : String) : Str).length ≤ 4300) : PySem.intText? ((toString i : String) : Str) = some i := by
  cases i with
  | ofNat n =>
    have e := PySem.intText_digits (x := ((toString ((n : Nat) : Int) : String) : Str)) (by rw [num_pos]; exact digits_all n) (by rw [num_pos]; exact digits_ne n) h
    rw [num_pos, PySem.W.KIN.val_back] at e
    exact e
  | negSucc n =>
    have e := PySem.intText_neg (x := ((toString (Int.negSucc n) : String) : Str)) (num_neg n) (digits_all _) (digits_ne _) h
    rw [PySem.W.KIN.val_back] at e
    rw [e]
    congr 1
/-- a text out of codes -/
def mkS (p : List Nat) : Str := ⟨p.toArray⟩
theorem mkS_cps (p : List Nat) : (mkS p).cps.toList = p := rfl
theorem mkS_len (p : List Nat) : (mkS p).length = p.length := rfl
theorem mkS_of {z : Str} {p : List Nat} (h : z.cps.toList = p) : z = mkS p := by
  cases z
  subst h
  rfl
theorem mkS_self (z : Str) : mkS z.cps.toList = z := (mkS_of rfl).symm
end El

set_option Elab.async false
set_option linter.all false
set_option maxRecDepth 100000
set_option maxHeartbeats 4000000
namespace K31
open PySem PySem.Spec PyProof.Rows L2 El NdefX
def topS (i : Nat) : Stmt := PySem.Challenge.pw_elseput_k31_plan_text_and_read.main.body.getD i (.Pass ⟨0, 0, 0, 0⟩)
abbrev s_is_name : Stmt := topS 13
theorem sc_is_name : FnScope ["text", "letter"] ["text"] (defScope s_is_name) := ⟨rfl, rfl, rfl, by decide +kernel, rfl, by decide +kernel, by decide +kernel⟩

abbrev s_split_line : Stmt := topS 14
theorem sc_split_line : FnScope ["line", "number", "found", "at", "end"] ["line", "number"] (defScope s_split_line) := ⟨rfl, rfl, rfl, by decide +kernel, rfl, by decide +kernel, by decide +kernel⟩

abbrev s_token_end : Stmt := topS 15
theorem sc_token_end : FnScope ["line", "at", "piece", "end"] ["line", "at"] (defScope s_token_end) := ⟨rfl, rfl, rfl, by decide +kernel, rfl, by decide +kernel, by decide +kernel⟩

abbrev s_run_end : Stmt := topS 16
theorem sc_run_end : FnScope ["line", "at", "characters", "end"] ["line", "at", "characters"] (defScope s_run_end) := ⟨rfl, rfl, rfl, by decide +kernel, rfl, by decide +kernel, by decide +kernel⟩

abbrev s_check_name : Stmt := topS 18
theorem sc_check_name : FnScope ["text"] ["text"] (defScope s_check_name) := ⟨rfl, rfl, rfl, by decide +kernel, rfl, by decide +kernel, by decide +kernel⟩

abbrev s_looked_at : Stmt := topS 24
theorem sc_looked_at : FnScope ["steps", "deed", "key"] ["steps"] (defScope s_looked_at) := ⟨rfl, rfl, rfl, by decide +kernel, rfl, by decide +kernel, by decide +kernel⟩

abbrev s_steps_fit : Stmt := topS 25
theorem sc_steps_fit : FnScope ["steps", "at"] ["steps"] (defScope s_steps_fit) := ⟨rfl, rfl, rfl, by decide +kernel, rfl, by decide +kernel, by decide +kernel⟩

abbrev s_step_fits : Stmt := topS 26
theorem sc_step_fits : FnScope ["steps", "at", "deed", "key"] ["steps", "at"] (defScope s_step_fits) := ⟨rfl, rfl, rfl, by decide +kernel, rfl, by decide +kernel, by decide +kernel⟩

abbrev s_keys_fit : Stmt := topS 27
theorem sc_keys_fit : FnScope ["steps", "names", "name"] ["steps", "names"] (defScope s_keys_fit) := ⟨rfl, rfl, rfl, by decide +kernel, rfl, by decide +kernel, by decide +kernel⟩

abbrev s_parse_plan : Stmt := topS 28
theorem sc_parse_plan : FnScope ["reader", "steps", "locked", "kept", "more"] ["reader"] (defScope s_parse_plan) := ⟨rfl, rfl, rfl, by decide +kernel, rfl, by decide +kernel, by decide +kernel⟩

abbrev s_parse_step : Stmt := topS 29
theorem sc_parse_step : FnScope ["reader", "deed"] ["reader"] (defScope s_parse_step) := ⟨rfl, rfl, rfl, by decide +kernel, rfl, by decide +kernel, by decide +kernel⟩

abbrev s_parse_keys : Stmt := topS 30
theorem sc_parse_keys : FnScope ["reader", "names"] ["reader"] (defScope s_parse_keys) := ⟨rfl, rfl, rfl, by decide +kernel, rfl, by decide +kernel, by decide +kernel⟩

abbrev s__law_state : Stmt := topS 32
theorem sc__law_state : FnScope ["_law_script"] ["_law_script"] (defScope s__law_state) := ⟨rfl, rfl, rfl, by decide +kernel, rfl, by decide +kernel, by decide +kernel⟩

abbrev s__law_draw : Stmt := topS 33
theorem sc__law_draw : FnScope ["_law_state_here", "_law_many", "_law_first", "_law_second", "_law_third", "_law_digit"] ["_law_state_here", "_law_many"] (defScope s__law_draw) := ⟨rfl, rfl, rfl, by decide +kernel, rfl, by decide +kernel, by decide +kernel⟩

abbrev s__law_pick : Stmt := topS 34
theorem sc__law_pick : FnScope ["_law_state_here", "_law_row"] ["_law_state_here", "_law_row"] (defScope s__law_pick) := ⟨rfl, rfl, rfl, by decide +kernel, rfl, by decide +kernel, by decide +kernel⟩

abbrev s__law_mixed : Stmt := topS 35
theorem sc__law_mixed : FnScope ["_law_state_here", "_law_row", "_law_rest", "_law_result", "_law_k", "_law_at"] ["_law_state_here", "_law_row"] (defScope s__law_mixed) := ⟨rfl, rfl, rfl, by decide +kernel, rfl, by decide +kernel, by decide +kernel⟩

abbrev s__law_names : Stmt := topS 36
theorem sc__law_names : FnScope ["_law_state_here", "_law_many", "_law_letters", "_law_style", "_law_shift", "_law_code", "_law_spot", "_law_base", "_law_k", "_law_reserved", "_law_result", "_law_word"] ["_law_state_here", "_law_many"] (defScope s__law_names) := ⟨rfl, rfl, rfl, by decide +kernel, rfl, by decide +kernel, by decide +kernel⟩

abbrev s__law_is_int : Stmt := topS 37
theorem sc__law_is_int : FnScope ["_law_thing"] ["_law_thing"] (defScope s__law_is_int) := ⟨rfl, rfl, rfl, by decide +kernel, rfl, by decide +kernel, by decide +kernel⟩

abbrev s__law_same : Stmt := topS 38
theorem sc__law_same : FnScope ["_law_actual", "_law_due_here", "_law_k", "_law_key"] ["_law_actual", "_law_due_here"] (defScope s__law_same) := ⟨rfl, rfl, rfl, by decide +kernel, rfl, by decide +kernel, by decide +kernel⟩

abbrev s__law_wild_steps : Stmt := topS 39
theorem sc__law_wild_steps : FnScope ["_law_state_here", "_law_carried", "_law_steps", "_law_early", "_law_key", "_law_late", "_law_style"] ["_law_state_here", "_law_carried"] (defScope s__law_wild_steps) := ⟨rfl, rfl, rfl, by decide +kernel, rfl, by decide +kernel, by decide +kernel⟩

abbrev s__law_some : Stmt := topS 40
theorem sc__law_some : FnScope ["_law_state_here", "_law_row", "_law_share", "_law_item"] ["_law_state_here", "_law_row", "_law_share"] (defScope s__law_some) := ⟨rfl, rfl, rfl, by decide +kernel, rfl, by decide +kernel, by decide +kernel⟩

abbrev s__law_text : Stmt := topS 41
theorem sc__law_text : FnScope ["_law_steps", "_law_row_keys", "_law_held_keys", "_law_line_here", "_law_looked", "_law_step", "_law_key"] ["_law_steps", "_law_row_keys", "_law_held_keys"] (defScope s__law_text) := ⟨rfl, rfl, rfl, by decide +kernel, rfl, by decide +kernel, by decide +kernel⟩

abbrev s__law_parts : Stmt := topS 42
theorem sc__law_parts : FnScope ["_law_steps", "_law_row_keys", "_law_held_keys", "_law_parts_here", "_law_step"] ["_law_steps", "_law_row_keys", "_law_held_keys"] (defScope s__law_parts) := ⟨rfl, rfl, rfl, by decide +kernel, rfl, by decide +kernel, by decide +kernel⟩

abbrev s__law_line : Stmt := topS 43
theorem sc__law_line : FnScope ["_law_state_here", "_law_parts_here", "_law_line_here", "_law_columns", "_law_k", "_law_gap"] ["_law_state_here", "_law_parts_here"] (defScope s__law_line) := ⟨rfl, rfl, rfl, by decide +kernel, rfl, by decide +kernel, by decide +kernel⟩

abbrev s__law_strange : Stmt := topS 44
theorem sc__law_strange : FnScope [] [] (defScope s__law_strange) := ⟨rfl, rfl, rfl, by decide +kernel, rfl, by decide +kernel, by decide +kernel⟩

abbrev s__law_misfit : Stmt := topS 45
theorem sc__law_misfit : FnScope ["_law_parts_here", "_law_names_here", "_law_stage", "_law_k", "_law_part", "_law_after"] ["_law_parts_here", "_law_names_here"] (defScope s__law_misfit) := ⟨rfl, rfl, rfl, by decide +kernel, rfl, by decide +kernel, by decide +kernel⟩

abbrev s__law_plan_of : Stmt := topS 46
theorem sc__law_plan_of : FnScope ["_law_parts_here", "_law_steps", "_law_row_keys", "_law_held_keys", "_law_stage", "_law_k"] ["_law_parts_here"] (defScope s__law_plan_of) := ⟨rfl, rfl, rfl, by decide +kernel, rfl, by decide +kernel, by decide +kernel⟩

abbrev s__law_is_plan : Stmt := topS 47
theorem sc__law_is_plan : FnScope ["_law_steps", "_law_row_keys", "_law_held_keys", "_law_looked", "_law_k", "_law_row", "_law_step"] ["_law_steps", "_law_row_keys", "_law_held_keys"] (defScope s__law_is_plan) := ⟨rfl, rfl, rfl, by decide +kernel, rfl, by decide +kernel, by decide +kernel⟩

abbrev s__law_due : Stmt := topS 48
theorem sc__law_due : FnScope ["_law_line_here", "_law_columns", "_law_parts_here", "_law_names_here", "_law_k", "_law_at", "_law_looked", "_law_first", "_law_second", "_law_steps", "_law_row_keys", "_law_held_keys", "_law_step", "_law_key"] ["_law_line_here", "_law_columns", "_law_parts_here", "_law_names_here"] (defScope s__law_due) := ⟨rfl, rfl, rfl, by decide +kernel, rfl, by decide +kernel, by decide +kernel⟩

abbrev s__law_read : Stmt := topS 49
theorem sc__law_read : FnScope ["_law_line_here", "e", "_law_plan", "_law_thing"] ["_law_line_here"] (defScope s__law_read) := ⟨rfl, rfl, rfl, by decide +kernel, rfl, by decide +kernel, by decide +kernel⟩

abbrev s__law_bent_rows : Stmt := topS 50
theorem sc__law_bent_rows : FnScope ["_law_state_here", "_law_rows", "_law_names_here", "_law_kind", "_law_at", "_law_name", "_law_steps", "_law_row_keys", "_law_held_keys"] ["_law_state_here", "_law_rows", "_law_names_here"] (defScope s__law_bent_rows) := ⟨rfl, rfl, rfl, by decide +kernel, rfl, by decide +kernel, by decide +kernel⟩

abbrev s__law_bent : Stmt := topS 51
theorem sc__law_bent : FnScope ["_law_state_here", "_law_rows", "_law_names_here", "_law_parts_here", "_law_kind", "_law_at", "_law_pool", "_law_item", "_law_steps", "_law_row_keys", "_law_held_keys"] ["_law_state_here", "_law_rows", "_law_names_here"] (defScope s__law_bent) := ⟨rfl, rfl, rfl, by decide +kernel, rfl, by decide +kernel, by decide +kernel⟩

abbrev s_law : Stmt := topS 52
theorem sc_law : FnScope ["_law_script", "_law_state_here", "_law_names_here", "_law_carried", "_law_steps", "_law_row_keys", "_law_held_keys", "_law_line_here", "_law_plan", "_law_parts_here", "_law_due_here", "_law_k", "_law_rows", "_law_columns"] ["_law_script"] (defScope s_law) := ⟨rfl, rfl, rfl, by decide +kernel, rfl, by decide +kernel, by decide +kernel⟩

abbrev s_Reader___init__ : Stmt := mthS (topS 20) 0
theorem sc_Reader___init__ : FnScope ["self", "line", "number"] ["self", "line", "number"] (defScope s_Reader___init__) := ⟨rfl, rfl, rfl, by decide +kernel, rfl, by decide +kernel, by decide +kernel⟩

abbrev s_Reader_at_end : Stmt := mthS (topS 20) 1
theorem sc_Reader_at_end : FnScope ["self"] ["self"] (defScope s_Reader_at_end) := ⟨rfl, rfl, rfl, by decide +kernel, rfl, by decide +kernel, by decide +kernel⟩

abbrev s_Reader_ahead : Stmt := mthS (topS 20) 2
theorem sc_Reader_ahead : FnScope ["self"] ["self"] (defScope s_Reader_ahead) := ⟨rfl, rfl, rfl, by decide +kernel, rfl, by decide +kernel, by decide +kernel⟩

abbrev s_Reader_skip : Stmt := mthS (topS 20) 3
theorem sc_Reader_skip : FnScope ["self", "token"] ["self", "token"] (defScope s_Reader_skip) := ⟨rfl, rfl, rfl, by decide +kernel, rfl, by decide +kernel, by decide +kernel⟩

abbrev s_Reader_take_name : Stmt := mthS (topS 20) 4
theorem sc_Reader_take_name : FnScope ["self"] ["self"] (defScope s_Reader_take_name) := ⟨rfl, rfl, rfl, by decide +kernel, rfl, by decide +kernel, by decide +kernel⟩

abbrev s_Reader_take_one : Stmt := mthS (topS 20) 7
theorem sc_Reader_take_one : FnScope ["self", "words"] ["self", "words"] (defScope s_Reader_take_one) := ⟨rfl, rfl, rfl, by decide +kernel, rfl, by decide +kernel, by decide +kernel⟩

abbrev s_Reader_take_end : Stmt := mthS (topS 20) 8
theorem sc_Reader_take_end : FnScope ["self"] ["self"] (defScope s_Reader_take_end) := ⟨rfl, rfl, rfl, by decide +kernel, rfl, by decide +kernel, by decide +kernel⟩

abbrev s_Reader__take_if : Stmt := mthS (topS 20) 9
theorem sc_Reader__take_if : FnScope ["self", "fits", "token"] ["self", "fits"] (defScope s_Reader__take_if) := ⟨rfl, rfl, rfl, by decide +kernel, rfl, by decide +kernel, by decide +kernel⟩

abbrev s_Reader__refuse : Stmt := mthS (topS 20) 10
theorem sc_Reader__refuse : FnScope ["self", "column"] ["self"] (defScope s_Reader__refuse) := ⟨rfl, rfl, rfl, by decide +kernel, rfl, by decide +kernel, by decide +kernel⟩

abbrev s_Plan___init__ : Stmt := mthS (topS 23) 0
theorem sc_Plan___init__ : FnScope ["self", "steps", "locked", "kept", "key", "deed", "_"] ["self", "steps", "locked", "kept"] (defScope s_Plan___init__) := ⟨rfl, rfl, rfl, by decide +kernel, rfl, by decide +kernel, by decide +kernel⟩

abbrev s_Plan_read : Stmt := mthS (topS 23) 1
theorem sc_Plan_read : FnScope ["line", "steps", "locked", "kept"] ["line"] (defScope s_Plan_read) := ⟨rfl, rfl, rfl, by decide +kernel, rfl, by decide +kernel, by decide +kernel⟩

abbrev s_Plan_text : Stmt := mthS (topS 23) 3
theorem sc_Plan_text : FnScope ["self", "parts", "word", "names", "deed", "key"] ["self"] (defScope s_Plan_text) := ⟨rfl, rfl, rfl, by decide +kernel, rfl, by decide +kernel, by decide +kernel⟩

abbrev s_BadName : Stmt := mthS (topS 3) 0
theorem sc_BadName : NdefX.NScope ["self", "name", "__class__"] ["self", "name"] ["__class__"] (defScope s_BadName) := NdefX.nscope_by (by decide +kernel)
abbrev s_BadText : Stmt := mthS (topS 4) 0
theorem sc_BadText : NdefX.NScope ["self", "line", "column", "__class__"] ["self", "line", "column"] ["__class__"] (defScope s_BadText) := NdefX.nscope_by (by decide +kernel)
abbrev s_BadPlan : Stmt := mthS (topS 5) 0
theorem sc_BadPlan : NdefX.NScope ["self", "__class__"] ["self"] ["__class__"] (defScope s_BadPlan) := NdefX.nscope_by (by decide +kernel)
section
variable {P : Program} {w : World} {K : PySem.W.Frag} {mg : Str → Option Value} {base : Heap}
variable {t_DIGITS t_LETTERS t_LONGEST_NAME : Tok} {a_DEEDS a_MARKS a_RESERVED a_SIGNS a_BadName a_BadPlan a_BadText a_ElseputError a_Plan a_Reader : Addr}
structure Gs (K : PySem.W.Frag) (mg : Str → Option Value) (t_DIGITS t_LETTERS t_LONGEST_NAME : Tok) (a_DEEDS a_MARKS a_RESERVED a_SIGNS a_BadName a_BadPlan a_BadText a_ElseputError a_Plan a_Reader : Addr) : Prop where
  z_ValueError : mg "ValueError" = none
  z_all : mg "all" = none
  z_bool : mg "bool" = none
  z_dict : mg "dict" = none
  z_int : mg "int" = none
  z_isinstance : mg "isinstance" = none
  z_len : mg "len" = none
  z_list : mg "list" = none
  z_range : mg "range" = none
  z_set : mg "set" = none
  z_staticmethod : mg "staticmethod" = none
  z_str : mg "str" = none
  z_super : mg "super" = none
  z_tuple : mg "tuple" = none
  g_DIGITS : mg "DIGITS" = some (.str "0123456789" t_DIGITS)
  g_LETTERS : mg "LETTERS" = some (.str "abcdefghijklmnopqrstuvwxyz" t_LETTERS)
  g_LONGEST_NAME : mg "LONGEST_NAME" = some (.int 12 t_LONGEST_NAME)
  g_DEEDS : mg "DEEDS" = some (.ref a_DEEDS)
  q_DEEDS : ∀ H, SqT K H a_DEEDS [(.str "take"), (.str "look"), (.str "free")]
  g_MARKS : mg "MARKS" = some (.ref a_MARKS)
  q_MARKS : ∀ H, SqT K H a_MARKS [(.str "("), (.str ")"), (.str ","), (.str ";"), (.str ":")]
  g_RESERVED : mg "RESERVED" = some (.ref a_RESERVED)
  q_RESERVED : ∀ H, SqT K H a_RESERVED [(.str "always"), (.str "never"), (.str "and"), (.str "or"), (.str "not"), (.str "when"), (.str "add"), (.str "set"), (.str "change"), (.str "tell"), (.str "refuse"), (.str "take"), (.str "look"), (.str "free"), (.str "lock"), (.str "keep"), (.str "keys"), (.str "fields")]
  g_SIGNS : mg "SIGNS" = some (.ref a_SIGNS)
  q_SIGNS : ∀ H, SqT K H a_SIGNS [(.str "<"), (.str "<="), (.str "=="), (.str "!="), (.str ">="), (.str ">")]
  g_BadName : mg "BadName" = some (.ref a_BadName)
  n_BadName : PySem.W.nsIn K mainGlobals "BadName" = some (some (.ref a_BadName))
  x_BadName : ExV K a_BadName ["name"]
  g_BadPlan : mg "BadPlan" = some (.ref a_BadPlan)
  n_BadPlan : PySem.W.nsIn K mainGlobals "BadPlan" = some (some (.ref a_BadPlan))
  x_BadPlan : ExV K a_BadPlan []
  g_BadText : mg "BadText" = some (.ref a_BadText)
  n_BadText : PySem.W.nsIn K mainGlobals "BadText" = some (some (.ref a_BadText))
  x_BadText : ExV K a_BadText ["line", "column"]
  g_ElseputError : mg "ElseputError" = some (.ref a_ElseputError)
  n_ElseputError : PySem.W.nsIn K mainGlobals "ElseputError" = some (some (.ref a_ElseputError))
  g_Plan : mg "Plan" = some (.ref a_Plan)
  n_Plan : PySem.W.nsIn K mainGlobals "Plan" = some (some (.ref a_Plan))
  g_Reader : mg "Reader" = some (.ref a_Reader)
  n_Reader : PySem.W.nsIn K mainGlobals "Reader" = some (some (.ref a_Reader))
  cl_Reader : Cls K a_Reader
  na_Reader__at : NoAttr K a_Reader "_at"
  na_Reader__end : NoAttr K a_Reader "_end"
  na_Reader__number : NoAttr K a_Reader "_number"
  na_Reader__parts : NoAttr K a_Reader "_parts"
  rd_Reader : ClX.CRead K a_Reader (.type "type")
  cl_Plan : Cls K a_Plan
  na_Plan_kept : NoAttr K a_Plan "kept"
  na_Plan_locked : NoAttr K a_Plan "locked"
  na_Plan_steps : NoAttr K a_Plan "steps"
  rd_Plan : ClX.CRead K a_Plan (.type "type")
  m_BadName_ElseputError : PySem.W.exmOne K (.ref a_BadName) (.ref a_ElseputError) = some true
  m_BadPlan_ElseputError : PySem.W.exmOne K (.ref a_BadPlan) (.ref a_ElseputError) = some true
  m_BadText_ElseputError : PySem.W.exmOne K (.ref a_BadText) (.ref a_ElseputError) = some true
  k_BadName_BadText : PySem.W.kitOne K (.ref a_BadName) (.ref a_BadText) = some false
  k_BadName_BadPlan : PySem.W.kitOne K (.ref a_BadName) (.ref a_BadPlan) = some false
  k_BadName_ValueError : PySem.W.kitOne K (.ref a_BadName) (.type "ValueError") = some true
  k_BadPlan_BadText : PySem.W.kitOne K (.ref a_BadPlan) (.ref a_BadText) = some false
  k_BadPlan_BadPlan : PySem.W.kitOne K (.ref a_BadPlan) (.ref a_BadPlan) = some true
  k_BadPlan_ValueError : PySem.W.kitOne K (.ref a_BadPlan) (.type "ValueError") = some true
  k_BadText_BadText : PySem.W.kitOne K (.ref a_BadText) (.ref a_BadText) = some true
  k_BadText_BadPlan : PySem.W.kitOne K (.ref a_BadText) (.ref a_BadPlan) = some false
  k_BadText_ValueError : PySem.W.kitOne K (.ref a_BadText) (.type "ValueError") = some true
/-! ### the script's state -/
def stv (scr : Addr) (i v m c : Int) : List V := [.ref scr, .int i, .int v, .int m, .int c]
def DrAt (H : Hp) (st scr : Addr) : Prop := ∃ (ns : List Int) (i v m c : Int), H st = some (.lst (stv scr i v m c)) ∧ H scr = some (.lst (ns.map V.int)) ∧ ns.length ≤ 63 ∧ 0 ≤ i
theorem DrAt.ne {H : Hp} {st scr : Addr} {ns : List Int} {i v m c : Int} (h : H st = some (.lst (stv scr i v m c))) (h2 : H scr = some (.lst (ns.map V.int))) : scr ≠ st := by
  refine ne_of h2 h fun e => ?_
  injection e with e
  cases ns with
  | nil => simp [stv] at e
  | cons a r => simp [stv] at e
theorem DrAt.upd {H : Hp} {st scr : Addr} {ns : List Int} {i v m c i' v' m' c' : Int} (h : H st = some (.lst (stv scr i v m c))) (h2 : H scr = some (.lst (ns.map V.int))) (hl : ns.length ≤ 63) (h0 : 0 ≤ i') : DrAt (upd H st (.lst (stv scr i' v' m' c'))) st scr :=
  ⟨ns, i', v', m', c', upd_same, by rw [upd_ne (DrAt.ne h h2)]; exact h2, hl, h0⟩
theorem upd_id {H : Hp} {a : Addr} {o : HO} (h : H a = some o) : upd H a o = H := by
  funext b
  unfold L2.upd
  split
  · rename_i e; rw [e, h]
  · rfl
theorem DrAt.lst {H : Hp} {st scr : Addr} (h : DrAt H st scr) : ∃ l, H st = some (.lst l) := by
  obtain ⟨ns, i, v, m, c, h, _⟩ := h
  exact ⟨_, h⟩
theorem DrAt.new {H H' : Hp} {st scr : Addr} (h : DrAt H st scr) (s : Same H H') : DrAt H' st scr := by
  obtain ⟨ns, i, v, m, c, h1, h2, h3⟩ := h
  exact ⟨ns, i, v, m, c, s _ _ h1, s _ _ h2, h3⟩
theorem DrAt.at {H : Hp} {st scr p : Addr} {o : HO} (h : DrAt H st scr) (h1 : p ≠ st) (h2 : p ≠ scr) : DrAt (L2.upd H p o) st scr := by
  obtain ⟨ns, i, v, m, c, e1, e2, h3⟩ := h
  exact ⟨ns, i, v, m, c, by rw [upd_ne h1.symm]; exact e1, by rw [upd_ne h2.symm]; exact e2, h3⟩
theorem same_new {H : Hp} {p : Addr} {o : HO} (h : H p = none) : Same H (upd H p o) := fun b u q => by rw [upd_ne (ne_of_none q h)]; exact q
theorem free_new {H : Hp} {p q : Addr} {o : HO} (h : upd H p o q = none) : H q = none := by
  unfold L2.upd at h
  split at h
  · cases h
  · exact h
theorem new_ne {H : Hp} {p q : Addr} {o : HO} (h : upd H p o q = none) : q ≠ p := fun e => by rw [e, upd_same] at h; cases h
theorem len_add (a b : Str) : (a ++ b).length = a.length + b.length := by
  show (a.cps ++ b.cps).size = _
  rw [Array.size_append]
  rfl
theorem cps_add (a b : Str) : (a ++ b).cps.toList = a.cps.toList ++ b.cps.toList := by
  show (a.cps ++ b.cps).toList = _
  rw [Array.toList_append]
theorem len_cps (z : Str) : z.cps.toList.length = z.length := Array.length_toList
theorem line_of {n : Nat} (h : n ≤ 100000) : n ≤ sizeLine := Nat.le_trans h (by decide)
theorem line_lt {n : Nat} (h : n < 100000) : n < sizeLine := Nat.lt_of_lt_of_le h (by decide)
/-- all that stood stands, st's own numbers aside -/
def Bt (st : Addr) (H H' : Hp) : Prop := ∀ b o, b ≠ st → H b = some o → H' b = some o
theorem Bt.refl (st : Addr) (H : Hp) : Bt st H H := fun _ _ _ h => h
theorem Bt.trans {st : Addr} {H H1 H2 : Hp} (a : Bt st H H1) (b : Bt st H1 H2) : Bt st H H2 := fun c o n h => b c o n (a c o n h)
theorem Bt.same {st : Addr} {H H' : Hp} (s : Same H H') : Bt st H H' := fun b o _ h => s b o h
theorem Bt.st {st : Addr} {H : Hp} {o : HO} : Bt st H (upd H st o) := fun b u n h => by rw [upd_ne n]; exact h
theorem Bt.free {st : Addr} {H H' : Hp} (s : Bt st H H') {l : Addr} (n : l ≠ st) (h : H' l = none) : H l = none := by
  cases q : H l with
  | none => rfl
  | some o => rw [s l o n q] at h; cases h
theorem DrAt.ne_new {H : Hp} {st scr p : Addr} (h : DrAt H st scr) (n : H p = none) : p ≠ st := by
  obtain ⟨l, e⟩ := h.lst
  exact (ne_of_none e n).symm

theorem DrAt.ne_scr {H : Hp} {st scr p : Addr} (h : DrAt H st scr) (n : H p = none) : p ≠ scr := by
  obtain ⟨ns, i, v, m, c, e1, e2, h3⟩ := h
  exact (ne_of_none e2 n).symm

/-! ### is_name -/
abbrev letters : Str := "abcdefghijklmnopqrstuvwxyz"
abbrev resv : List V := [.str "always", .str "never", .str "and", .str "or", .str "not", .str "when", .str "add", .str "set", .str "change", .str "tell", .str "refuse", .str "take", .str "look", .str "free", .str "lock", .str "keep", .str "keys", .str "fields"]
def isName (z : Str) : Bool := if (decide ((z.length : Int) < 1) || decide ((12 : Int) < z.length) || inV (.str z) resv) = true then false else z.cps.toList.all fun c => decide (c ∈ letters.cps.toList)
def sp_is_name (K : PySem.W.Frag) : Sp := fun vs H Q _ => ∃ z : Str, vs = [.str z] ∧ z.length ≤ 1000 ∧ ∀ H', Same H H' → Q (.bl (isName z)) H'
theorem len_is_name {vs : List V} {H : Hp} {Q : VK} {E : XK} (h : sp_is_name K vs H Q E) : vs.length = 1 := by
  obtain ⟨_, rfl, _⟩ := h
  rfl
theorem ok_is_name {f : Addr} {fd : FuncData} (F : Fun K "is_name" "is_name" s_is_name f fd) (T : Gs K mg t_DIGITS t_LETTERS t_LONGEST_NAME a_DEEDS a_MARKS a_RESERVED a_SIGNS a_BadName a_BadPlan a_BadText a_ElseputError a_Plan a_Reader) : FnOk P w K mg base CX0 1 f fd ["text"] (sp_is_name K) := by
  refine F.ok sc_is_name (fun vs H Q E h => len_is_name h) (fun cdv A outer s H vs Q E hr h => ?_)
  obtain ⟨z, rfl, h0, q⟩ := h
  refine ⟨_, (pss_cons (ps_if (PW.pt (pw_or (pt_c op_ltM (pe_callB (lenK K) (by rfl) T.z_len PySem.boot_len (pa_cons (v_ 0) pa_nil)) pe_int) (pw_or (pt_c op_gtM (pe_callB (lenK K) (by rfl) T.z_len PySem.boot_len (pa_cons (v_ 0) pa_nil)) (pe_glob (v := .int 12) rfl T.g_LONGEST_NAME ⟨_, rfl⟩)) (pw_or1 (pt_c (inK K) (v_ 0) (pe_glob (v := .ref a_RESERVED) rfl T.g_RESERVED rfl)))))) (pss_one (ps_ret pe_bl)) pss_nil) (pss_one (ps_ret (pe_callB (allK K rfl) (by rfl) T.z_all (by decide +kernel) (pa_cons (pe_lc (own := [("letter", 1)]) (g := gName 1) (by rfl) sc_is_name.nd (pi_str (v_ 0)) (blkOk_by (N := ["text", "letter"]) (sc := defScope s_is_name) (by decide +kernel)) (fun _ _ _ _ _ => pg_name (i := 1) sc_is_name.nd rfl (Or.inl rfl)) (fun _ _ _ _ _ => pts_nil) (fun _ _ _ _ _ => (pe_c (inK K) (v_ 1) (pe_glob (v := .str "abcdefghijklmnopqrstuvwxyz") rfl T.g_LETTERS ⟨_, rfl⟩)))) pa_nil))))), ?_⟩
  refine ⟨line_of (by omega), ?_⟩
  have no : ∀ c : Bool, (decide ((z.length : Int) < 1) || decide ((12 : Int) < z.length) || inV (.str z) resv) = c → isName z = if c = true then false else z.cps.toList.all fun c => decide (c ∈ letters.cps.toList) := fun c e => by
    rw [← e]; rfl
  refine ite2 (fun e => ?_) (fun e => ?_)
  · have := q H (Same.refl H)
    rw [no true (by rw [show decide ((z.length : Int) < 1) = true from e]; rfl)] at this
    exact this
  refine ⟨line_of (by omega), ?_⟩
  refine ite2 (fun e1 => ?_) (fun e1 => ?_)
  · have := q H (Same.refl H)
    rw [no true (by rw [show decide ((12 : Int) < z.length) = true from e1, Bool.or_true]; rfl)] at this
    exact this
  refine ⟨_, .inr (T.q_RESERVED _), rfl, rfl, ?_⟩
  refine ite2 (fun e2 => ?_) (fun e2 => ?_)
  · have := q H (Same.refl H)
    rw [no true (by rw [show inV (.str z) resv = true from e2, Bool.or_true])] at this
    exact this
  have en : isName z = z.cps.toList.all fun c => decide (c ∈ letters.cps.toList) := by
    rw [no false (by rw [show decide ((z.length : Int) < 1) = false from Bool.eq_false_iff.mpr e, show decide ((12 : Int) < z.length) = false from Bool.eq_false_iff.mpr e1, show inV (.str z) resv = false from Bool.eq_false_iff.mpr e2]; rfl)]
    rfl
  refine ⟨z, rfl, fun D nD => lc_it walk_str (fun i H' => H' = upd H D (.lst (((z.cps.toList.take i).map fun c => decide (c ∈ letters.cps.toList)).map V.bl))) rfl (fun _ _ _ _ => True.intro) ?_ ?_⟩
  · rintro i x H1 H2 hi rfl ⟨rfl, c, hc, rfl⟩
    refine ⟨rfl, ?_⟩
    refine ⟨c, rfl, _, upd_same, ?_, ?_⟩
    · rw [List.length_map, List.length_map, List.length_take]
      have : z.cps.size = z.length := rfl
      exact small1000 (by omega)
    · rw [upd_upd]
      have e : z.cps.toList.take (i + 1) = z.cps.toList.take i ++ [c] := by
        rw [List.take_add_one, Array.getElem?_toList, hc]
        rfl
      rw [e, List.map_append, List.map_append]
      rfl
  · rintro H1 rfl
    rw [show z.cps.size = z.cps.toList.length from (Array.length_toList).symm, List.take_length]
    refine ⟨_, _, rfl, SqL.of upd_same, ?_⟩
    have := q _ (same_new nD (o := .lst ((z.cps.toList.map fun c => decide (c ∈ letters.cps.toList)).map V.bl)))
    rw [en] at this
    rw [List.all_map]
    exact this
end
section
variable {P : Program} {w : World} {K : PySem.W.Frag} {mg : Str → Option Value} {base : Heap}
variable {t_DIGITS t_LETTERS t_LONGEST_NAME : Tok} {a_DEEDS a_MARKS a_RESERVED a_SIGNS a_BadName a_BadPlan a_BadText a_ElseputError a_Plan a_Reader : Addr}
/-! ### checks -/
theorem isName_mem {z : Str} (h : isName z = true) : (∀ c ∈ z.cps.toList, c ∈ letters.cps.toList) ∧ 1 ≤ z.length ∧ z.length ≤ 12 ∧ inV (.str z) resv = false := by
  unfold isName at h
  split at h
  · exact absurd h (by decide)
  · rename_i hc
    rw [Bool.not_eq_true, Bool.or_eq_false_iff, Bool.or_eq_false_iff, decide_eq_false_iff_not, decide_eq_false_iff_not] at hc
    exact ⟨fun c hm => of_decide_eq_true (List.all_eq_true.mp h c hm), by omega, by omega, hc.2⟩
theorem letters_small : ∀ c ∈ letters.cps.toList, c < 16 ^ 8 := by decide +kernel
theorem isName_asc {z : Str} (h : isName z = true) : Asc z := fun c hc => letters_small c ((isName_mem h).1 c hc)
def BadN (K : PySem.W.Frag) (H : Hp) (z : Str) (E : XK) : Prop := ∀ (C d : Addr) (H' : Hp), PySem.W.nsIn K mainGlobals "BadName" = some (some (.ref C)) → Same H H' → H d = none → H' d = some (.xd [("name", .str z)]) → E (.ref C) (some d) H'
theorem BadN.same {K : PySem.W.Frag} {H H1 : Hp} {z : Str} {E : XK} (h : BadN K H z E) (s : Same H H1) : BadN K H1 z E := fun C d H' hC s2 nd hd => h C d H' hC (s.trans s2) (Same.free s nd) hd
def okx_BadName (ws : List V) : Prop := ∃ z : Str, ws = [.str z] ∧ z.length ≤ 1000 ∧ Asc z
def fs_BadName (ws : List V) : List (Str × V) := match ws with | [l] => [("name", l)] | _ => []
theorem len_spE {C : Addr} {ok : List V → Prop} {fs : List V → List (Str × V)} {n : Nat} (hn : ∀ ws, ok ws → ws.length = n) {vs : List V} {H : Hp} {Q : VK} {E : XK} (h : spE C ok fs vs H Q E) : vs.length = n + 1 := by
  obtain ⟨a, ws, rfl, h, _⟩ := h
  rw [List.length_cons, hn _ h]
theorem log_200 {i : Int} (h : i.natAbs < 2 ^ 200) : i.natAbs.log2 < 1920 := by
  by_cases hz : i.natAbs = 0
  · rw [hz]
    decide
  · exact (Nat.log2_lt hz).mpr (Nat.lt_of_lt_of_le h (Nat.pow_le_pow_right (by decide) (by decide)))
theorem ok_BadName {C f cc cda : Addr} {doc pm ct oc ccl cl : Value} {od cdd cld : Option Addr} {osl ccs csl : Array (Option Value)} {vs0 : Array Value} {file : Str} {tf : Tok} {cdD : ClassData}
    (X : ExK K C f ["name"]) (lk : K.lookup f = some ⟨oc, od, .func (PySem.W.fnX "__init__" "BadName.__init__" (defArgs s_BadName) (defBody s_BadName) (defScope s_BadName) [("__class__", cc)] .none .none doc pm none (.ref cda) ct), osl⟩)
    (hcd : PySem.W.codeIn K (.ref cda) "BadName.__init__" = true) (hcode : K.lookup cda = some ⟨ccl, cdd, .fields vs0, ccs⟩) (hvs : vs0[2]? = some (.str file tf)) (hfile : ((P.main.file : Str) == file) = true)
    (hcell : K.lookup cc = some ⟨cl, cld, .cell (some (.ref C)), csl⟩) (hD : PySem.W.clsIn K C = some cdD) (hsuper : mg "super" = none) (hop : PySem.W.nsIn K PySem.cStatics "thirdparty.any" = some none) (htop : (P.main.scope.names.lookup ("super" : Str)).isSome = false) :
    FnOk P w K mg base CX0 1 f (PySem.W.fnX "__init__" "BadName.__init__" (defArgs s_BadName) (defBody s_BadName) (defScope s_BadName) [("__class__", cc)] .none .none doc pm none (.ref cda) ct) ["self", "name"] (spE C okx_BadName fs_BadName) := by
  refine fn_super lk hcd sc_BadName hcode hvs hfile hcell hD hsuper hop rfl rfl rfl htop rfl (fun vs H Q E h => len_spE (n := 1) (fun ws h => by obtain ⟨_, rfl, _⟩ := h; rfl) h) (fun A outer s H vs Q E hr h => ?_) (fun _ => rfl) (fun _ => rfl) (fun _ => rfl)
  obtain ⟨a, ws, rfl, ⟨l, rfl, l0, l1⟩, ea, q⟩ := h
  refine ⟨a, C, _, _, rfl, ea, X.oex, X.mro, X.sup, X.subV, pa_cons (pe_joined (.cons pe_str (.cons (pe_fmtR (v_ 1)) .nil))) pa_nil, pss_one (ps_ost (v_ 0) (v_ 1)), ?_⟩
  have tl := repr_le l1 l0
  have z0 : Str.empty.length = 0 := rfl
  have z1 : (Str.ofString "not a name: ").length = 12 := rfl
  refine ⟨_, rfl, line_of (by rw [len_add]; omega), .inl ⟨_, rfl, line_of (by omega), _, rfl, line_of (by rw [len_add, len_add]; omega), ?_⟩⟩
  refine ⟨ea, (by show 1 ≤ 1000; decide), ?_⟩
  exact ⟨a, C, rfl, X.oex, X.no _ (by simp), .inl ⟨ea, ost1 ea fun dx H' n ne e1 e2 hh => q dx _ n ne e1 e2 hh⟩⟩
theorem ok_BadPlan {C f cc cda : Addr} {doc pm ct oc ccl cl : Value} {od cdd cld : Option Addr} {osl ccs csl : Array (Option Value)} {vs0 : Array Value} {file : Str} {tf : Tok} {cdD : ClassData}
    (X : ExK K C f []) (lk : K.lookup f = some ⟨oc, od, .func (PySem.W.fnX "__init__" "BadPlan.__init__" (defArgs s_BadPlan) (defBody s_BadPlan) (defScope s_BadPlan) [("__class__", cc)] .none .none doc pm none (.ref cda) ct), osl⟩)
    (hcd : PySem.W.codeIn K (.ref cda) "BadPlan.__init__" = true) (hcode : K.lookup cda = some ⟨ccl, cdd, .fields vs0, ccs⟩) (hvs : vs0[2]? = some (.str file tf)) (hfile : ((P.main.file : Str) == file) = true)
    (hcell : K.lookup cc = some ⟨cl, cld, .cell (some (.ref C)), csl⟩) (hD : PySem.W.clsIn K C = some cdD) (hsuper : mg "super" = none) (hop : PySem.W.nsIn K PySem.cStatics "thirdparty.any" = some none) (htop : (P.main.scope.names.lookup ("super" : Str)).isSome = false) :
    FnOk P w K mg base CX0 1 f (PySem.W.fnX "__init__" "BadPlan.__init__" (defArgs s_BadPlan) (defBody s_BadPlan) (defScope s_BadPlan) [("__class__", cc)] .none .none doc pm none (.ref cda) ct) ["self"] (spE0 C) := by
  refine fn_super lk hcd sc_BadPlan hcode hvs hfile hcell hD hsuper hop rfl rfl rfl htop rfl (fun vs H Q E h => by obtain ⟨_, rfl, _⟩ := h; rfl) (fun A outer s H vs Q E hr h => ?_) (fun _ => rfl) (fun _ => rfl) (fun _ => rfl)
  obtain ⟨a, rfl, ea, q⟩ := h
  exact ⟨a, C, _, _, rfl, ea, X.oex, X.mro, X.sup, X.subV, pa_cons pe_str pa_nil, pss_nil, ea, (by show 1 ≤ 1000; decide), q⟩
def BadP (K : PySem.W.Frag) (H : Hp) (E : XK) : Prop := ∀ (B : Addr) (H' : Hp), PySem.W.nsIn K mainGlobals "BadPlan" = some (some (.ref B)) → Same H H' → E (.ref B) none H'
theorem log_small {i : Int} (h0 : 0 ≤ i) (h1 : i ≤ 100000) : i.natAbs.log2 < 1920 := by
  by_cases hz : i.natAbs = 0
  · rw [hz]
    decide
  · refine (Nat.log2_lt hz).mpr ?_
    have : i.natAbs ≤ 100000 := by omega
    exact Nat.lt_of_le_of_lt this (Nat.lt_of_lt_of_le (show 100000 < 2 ^ 17 by decide) (Nat.pow_le_pow_right (by decide) (by decide)))
theorem text_small {i : Int} (h0 : 0 ≤ i) (h1 : i ≤ 100000) : (Str.ofString (toString i)).length ≤ 6 := toString_length_le h0 (by decide) (by omega)
theorem str_eq {a b : Str} : a = b ↔ a.cps.toList = b.cps.toList := by
  constructor
  · rintro rfl; rfl
  · intro h
    cases a
    cases b
    congr
    exact Array.toList_inj.mp h
end
section
variable {P : Program} {w : World} {K : PySem.W.Frag} {mg : Str → Option Value} {base : Heap}
variable {t_DIGITS t_LETTERS t_LONGEST_NAME : Tok} {a_DEEDS a_MARKS a_RESERVED a_SIGNS a_BadName a_BadPlan a_BadText a_ElseputError a_Plan a_Reader : Addr}
theorem inV_str {z : Str} : ∀ {xs : List Str}, inV (.str z) (xs.map V.str) = decide (z ∈ xs)
  | [] => rfl
  | a :: r => by
    have ih := inV_str (z := z) (xs := r)
    unfold inV at ih ⊢
    rw [List.map_cons, List.any_cons, ih]
    have : eqV (.str a) (.str z) = decide (z = a) := by
      show (a == z) = _
      rw [Bool.eq_iff_iff, beq_iff_eq, decide_eq_true_iff, eq_comm]
    rw [this, Bool.eq_iff_iff, Bool.or_eq_true, decide_eq_true_iff, decide_eq_true_iff, decide_eq_true_iff, List.mem_cons]
theorem flat_strs {xs : List Str} : (xs.map V.str).all flatV = true := by
  rw [List.all_map]
  exact List.all_eq_true.mpr fun _ _ => rfl
def sp__law_draw (K : PySem.W.Frag) : Sp := fun vs H Q _ => ∃ (st scr : Addr) (many : Int), vs = [.ref st, .int many] ∧ DrAt H st scr ∧ 0 < many ∧ many.natAbs < 2 ^ 200 ∧
  ∀ (r : Int) (l : List V), 0 ≤ r → r < many → DrAt (upd H st (.lst l)) st scr → Q (.int r) (upd H st (.lst l))
theorem len__law_draw {vs : List V} {H : Hp} {Q : VK} {E : XK} (h : sp__law_draw K vs H Q E) : vs.length = 2 := by
  obtain ⟨_, _, _, rfl, _⟩ := h
  rfl
theorem ok__law_draw {f : Addr} {fd : FuncData} (F : Fun K "_law_draw" "_law_draw" s__law_draw f fd) (T : Gs K mg t_DIGITS t_LETTERS t_LONGEST_NAME a_DEEDS a_MARKS a_RESERVED a_SIGNS a_BadName a_BadPlan a_BadText a_ElseputError a_Plan a_Reader) : FnOk P w K mg base CX0 1 f fd ["_law_state_here", "_law_many"] (sp__law_draw K) := by
  refine F.ok sc__law_draw (fun vs H Q E h => len__law_draw h) (fun cdv A outer s H vs Q E hr h => ?_)
  obtain ⟨st, scr, many, rfl, ⟨ns, i, v, m, c, hst, hscr, hl, h0⟩, hm0, hm1, q⟩ := h
  have hne := DrAt.ne hst hscr
  refine ⟨_, (Evl.pss_cut (ps_if (pt_c (eqK K hr.units) (e_x K (v_ 0) pe_int) pe_int) (pss_cons (ps_if (pt_c op_geM (e_x K (v_ 0) pe_int) (pe_callB (lenK K) (by rfl) T.z_len PySem.boot_len (pa_cons (e_x K (v_ 0) pe_int) pa_nil))) (pss_one (ps_ret pe_int)) pss_nil) (pss_cons (ps_asg (pe_callTy call_intM (by rfl) T.z_int (by decide +kernel) (pa_cons (e_x K (e_x K (v_ 0) pe_int) (e_x K (v_ 0) pe_int)) pa_nil)) (pg_sub (v_ 0) pe_int set_list)) (pss_cons (ps_asg (pe_op (addK K) (e_x K (v_ 0) pe_int) pe_int) (pg_sub (v_ 0) pe_int set_list)) (pss_cons (ps_asg pe_int (pg_sub (v_ 0) pe_int set_list)) (pss_cons (ps_asg pe_int (pg_sub (v_ 0) pe_int set_list)) (pss_one (ps_if (pt_c op_ltM (e_x K (v_ 0) pe_int) (pe_op op_powM pe_int pe_int)) (pss_one (ps_asg pe_int (pg_sub (v_ 0) pe_int set_list))) pss_nil))))))) pss_nil) (pss_cons (ps_asg (pe_op (addK K) (e_x K (v_ 0) pe_int) pe_int) (pg_sub (v_ 0) pe_int set_list)) (pss_cons (ps_if (pt_c (eqK K hr.units) (e_x K (v_ 0) pe_int) pe_int) (pss_cons (ps_set (i := 5) sc__law_draw.nd rfl (.inl rfl) (pe_op op_modM (pe_callTy call_intM (by rfl) T.z_int (by decide +kernel) (pa_cons (e_x K (v_ 0) pe_int) pa_nil)) (v_ 1))) (pss_cons (ps_asg (pe_op op_divM (pe_callTy call_intM (by rfl) T.z_int (by decide +kernel) (pa_cons (e_x K (v_ 0) pe_int) pa_nil)) (v_ 1)) (pg_sub (v_ 0) pe_int set_list)) (Evl.pss_cut (ps_if (PW.pt (pw_or (pt_c (eqK K hr.units) (e_x K (v_ 0) pe_int) pe_int) (pw_or1 (pt_c op_geM (e_x K (v_ 0) pe_int) pe_int)))) (pss_one (ps_asg pe_int (pg_sub (v_ 0) pe_int set_list))) pss_nil) (pss_one (ps_ret (v_ 5)))))) pss_nil) (pss_cons (ps_set (i := 2) sc__law_draw.nd rfl (.inl rfl) (pe_op op_modM (pe_callTy call_intM (by rfl) T.z_int (by decide +kernel) (pa_cons (pe_op (addK K) (pe_op op_mulSM (e_x K (v_ 0) pe_int) pe_int) (pe_op op_mulSM (e_x K (v_ 0) pe_int) pe_int)) pa_nil)) pe_int)) (pss_cons (ps_set (i := 3) sc__law_draw.nd rfl (.inl rfl) (pe_op op_modM (pe_callTy call_intM (by rfl) T.z_int (by decide +kernel) (pa_cons (pe_op (addK K) (pe_op (addK K) (pe_op op_mulSM (v_ 2) (v_ 2)) (pe_op op_mulSM (e_x K (v_ 0) pe_int) pe_int)) pe_int) pa_nil)) pe_int)) (Evl.pss_cut (ps_if (pt_c op_geM (e_x K (v_ 0) pe_int) pe_int) (pss_one (ps_asg pe_int (pg_sub (v_ 0) pe_int set_list))) pss_nil) (pss_cons (ps_set (i := 4) sc__law_draw.nd rfl (.inl rfl) (pe_op op_modM (pe_callTy call_intM (by rfl) T.z_int (by decide +kernel) (pa_cons (pe_op (addK K) (pe_op op_mulSM (v_ 3) pe_int) (v_ 2)) pa_nil)) pe_int)) (pss_one (ps_ret (pe_op op_modM (pe_callTy call_intM (by rfl) T.z_int (by decide +kernel) (pa_cons (v_ 4) pa_nil)) (v_ 1))))))))))), ?_⟩
  refine ⟨fun σ' H' => σ' = [some (.ref st), some (.int many), none, none, none, none] ∧ ∃ i v m c, H' = upd H st (.lst (stv scr i v m c)) ∧ 0 ≤ i, ?_, ?_⟩
  · refine ⟨_, .inl (SqL.of hst), _, rfl, ?_⟩
    refine ite2 (fun e => ?_) (fun e => ?_)
    · refine ⟨_, .inl (SqL.of hst), _, rfl, _, .inl (SqL.of hst), _, rfl, .inl ⟨_, .inl (SqL.of hscr), ?_⟩⟩
      refine ite2 (fun e1 => ?_) (fun e1 => ?_)
      · have z := q 0 (stv scr i v m c) (by omega) hm0 (DrAt.upd hst hscr hl h0)
        rw [upd_id hst] at z
        exact z
      · have e2 := of_decide_eq_false (Bool.eq_false_iff.mpr e1)
        rw [List.length_map] at e2
        obtain ⟨z, hz⟩ : ∃ z, atI (ns.map V.int) i = some (.int z) := by
          have hi : i.toNat < ns.length := by omega
          refine ⟨ns[i.toNat], ?_⟩
          have hq : atI (ns.map V.int) ((i.toNat : Nat) : Int) = some (.int ns[i.toNat]) := atI_nat (by rw [List.getElem?_map, List.getElem?_eq_getElem hi]; rfl)
          rwa [show ((i.toNat : Nat) : Int) = i by omega] at hq
        refine ⟨_, .inl (SqL.of hst), _, rfl, _, .inl (SqL.of hst), _, rfl, _, .inl (SqL.of hscr), _, hz, ?_⟩
        refine ⟨_, _, _, 2, rfl, rfl, hst, rfl, ?_⟩
        refine ⟨_, .inl (SqL.of upd_same), _, rfl, ?_⟩
        refine ⟨_, _, _, 1, rfl, rfl, upd_same, rfl, ?_⟩
        refine ⟨_, _, _, 3, rfl, rfl, upd_same, rfl, ?_⟩
        refine ⟨_, _, _, 4, rfl, rfl, upd_same, rfl, ?_⟩
        refine ⟨_, .inl (SqL.of upd_same), _, rfl, (by unfold CPow; decide), ?_⟩
        refine ite2 (fun e3 => ?_) (fun e3 => ?_)
        · refine ⟨_, _, _, 3, rfl, rfl, upd_same, rfl, rfl, i + 1, z, 2, 0, ?_, by omega⟩
          rw [upd_upd, upd_upd, upd_upd, upd_upd]
          rfl
        · refine ⟨rfl, i + 1, z, 1, 0, ?_, by omega⟩
          rw [upd_upd, upd_upd, upd_upd]
          rfl
    · exact ⟨rfl, i, v, m, c, (upd_id hst).symm, h0⟩
  · rintro σ' H' ⟨rfl, i, v, m, c, rfl, h0⟩
    have hscr' : ∀ o, upd H st o scr = some (.lst (ns.map V.int)) := fun o => by rw [upd_ne hne]; exact hscr
    refine ⟨_, .inl (SqL.of upd_same), _, rfl, ?_⟩
    refine ⟨_, _, _, 4, rfl, rfl, upd_same, rfl, ?_⟩
    rw [upd_upd]
    refine ⟨_, .inl (SqL.of upd_same), _, rfl, ?_⟩
    refine ite2 (fun e => ?_) (fun e => ?_)
    · refine ⟨_, .inl (SqL.of upd_same), _, rfl, hm0, ?_⟩
      refine ⟨_, .inl (SqL.of upd_same), _, rfl, .inr (wide_div hm0 (b := 200) hm1 (by decide) (by decide)), ?_⟩
      refine ⟨_, _, _, 2, rfl, rfl, upd_same, rfl, ?_⟩
      rw [upd_upd]
      have fin : ∀ m' : Int, Q (.int (v % many)) (upd H st (.lst (stv scr i (v / many) m' (c + 1)))) := fun m' => q _ _ (Int.emod_nonneg _ (by omega)) (Int.emod_lt_of_pos _ hm0) (DrAt.upd hst hscr hl h0)
      refine ⟨fun σ' H' => σ' = [some (.ref st), some (.int many), none, none, none, some (.int (v % many))] ∧ ∃ m', H' = upd H st (.lst (stv scr i (v / many) m' (c + 1))), ?_, ?_⟩
      · refine ⟨_, .inl (SqL.of upd_same), _, rfl, ?_⟩
        refine ite2 (fun e1 => ?_) (fun e1 => ?_)
        · refine ⟨_, _, _, 3, rfl, rfl, upd_same, rfl, rfl, 0, ?_⟩
          rw [upd_upd]
          rfl
        · refine ⟨_, .inl (SqL.of upd_same), _, rfl, ?_⟩
          refine ite2 (fun e1 => ?_) (fun e1 => ?_)
          · refine ⟨_, _, _, 3, rfl, rfl, upd_same, rfl, rfl, 0, ?_⟩
            rw [upd_upd]
            rfl
          · exact ⟨rfl, m, rfl⟩
      · rintro σ' H' ⟨rfl, m', rfl⟩
        exact fin m'
    · refine ⟨_, .inl (SqL.of upd_same), _, rfl, .inl (.inr ⟨by decide, by decide⟩), ?_⟩
      refine ⟨_, .inl (SqL.of upd_same), _, rfl, .inl (.inr ⟨by decide, by decide⟩), (by decide), ?_⟩
      have f0 := Int.emod_nonneg (v * 48271 + (c + 1) * 69621) (by decide : (2147483647 : Int) ≠ 0)
      have f1 := Int.emod_lt_of_pos (v * 48271 + (c + 1) * 69621) (by decide : (0 : Int) < 2147483647)
      refine ⟨.inl (.inl ⟨by omega, by omega⟩), ?_⟩
      refine ⟨_, .inl (SqL.of upd_same), _, rfl, .inl (.inr ⟨by decide, by decide⟩), (by decide), ?_⟩
      have fin : ∀ (m' x : Int), Q (.int (x % many)) (upd H st (.lst (stv scr i v m' (c + 1)))) := fun m' x => q _ _ (Int.emod_nonneg _ (by omega)) (Int.emod_lt_of_pos _ hm0) (DrAt.upd hst hscr hl h0)
      refine ⟨fun σ' H' => (∃ a b, σ' = [some (.ref st), some (.int many), some (.int a), some (.int b), none, none]) ∧ ∃ m', H' = upd H st (.lst (stv scr i v m' (c + 1))), ?_, ?_⟩
      · refine ⟨_, .inl (SqL.of upd_same), _, rfl, ?_⟩
        refine ite2 (fun e1 => ?_) (fun e1 => ?_)
        · refine ⟨_, _, _, 3, rfl, rfl, upd_same, rfl, ⟨_, _, rfl⟩, 0, ?_⟩
          rw [upd_upd]
          rfl
        · exact ⟨⟨_, _, rfl⟩, m, rfl⟩
      · rintro σ' H' ⟨⟨a, b, rfl⟩, m', rfl⟩
        refine ⟨.inl (.inr ⟨by decide, by decide⟩), (by decide), hm0, ?_⟩
        exact fin m' _

/-! ### _law_state -/
def sp__law_state (K : PySem.W.Frag) : Sp := fun vs H Q _ => ∃ (a : Addr) (ns : List Int), vs = [.ref a] ∧ SqL K H a (ns.map V.int) ∧ ns.length ≤ 63 ∧
  ∀ (H' : Hp) (st scr : Addr), Same H H' → H st = none → H scr = none → DrAt H' st scr → Q (.ref st) H'
theorem len__law_state {vs : List V} {H : Hp} {Q : VK} {E : XK} (h : sp__law_state K vs H Q E) : vs.length = 1 := by
  obtain ⟨_, _, rfl, _⟩ := h
  rfl
theorem ok__law_state {f : Addr} {fd : FuncData} (F : Fun K "_law_state" "_law_state" s__law_state f fd) (T : Gs K mg t_DIGITS t_LETTERS t_LONGEST_NAME a_DEEDS a_MARKS a_RESERVED a_SIGNS a_BadName a_BadPlan a_BadText a_ElseputError a_Plan a_Reader) : FnOk P w K mg base CX0 1 f fd ["_law_script"] (sp__law_state K) := by
  refine F.ok sc__law_state (fun vs H Q E h => len__law_state h) (fun cdv A outer s H vs Q E hr h => ?_)
  obtain ⟨a, ns, rfl, hS, hl, q⟩ := h
  refine ⟨_, (pss_one (ps_ret (pe_lst (pa_cons (pe_callTy (listK K) (by rfl) T.z_list (by decide +kernel) (pa_cons (v_ 0) pa_nil)) (pa_cons pe_int (pa_cons pe_int (pa_cons pe_int (pa_cons pe_int pa_nil)))))))), ?_⟩
  refine ⟨_, _, rfl, .inl hS, fun l nl => ?_⟩
  refine ⟨(by show 5 ≤ sizeLine; decide), fun st nst => ?_⟩
  have hne := new_ne nst
  refine q _ st l ((same_new nl).trans (same_new nst)) (free_new nst) nl ⟨ns, 0, 0, 0, 0, upd_same, ?_, hl, by omega⟩
  rw [upd_ne hne.symm, upd_same]

theorem at_list {α : Type} {xs : List α} {r : Int} (h0 : 0 ≤ r) (h1 : r < xs.length) : ∃ x, atI xs r = some x ∧ x ∈ xs := by
  have hi : r.toNat < xs.length := by omega
  refine ⟨xs[r.toNat], ?_, List.getElem_mem hi⟩
  have hq : atI xs ((r.toNat : Nat) : Int) = some xs[r.toNat] := atI_nat (List.getElem?_eq_getElem hi)
  rwa [show ((r.toNat : Nat) : Int) = r by omega] at hq
theorem at_str {z : Str} {r : Int} (h0 : 0 ≤ r) (h1 : r < z.length) : ∃ c, atI z.cps.toList r = some c ∧ c ∈ z.cps.toList := at_list h0 (by rw [len_cps]; exact h1)
theorem many_small {m : Int} (h0 : 0 < m) (h1 : m ≤ 1000000000) : m.natAbs < 2 ^ 200 := Nat.lt_of_le_of_lt (show m.natAbs ≤ 2 ^ 30 by omega) (Nat.pow_lt_pow_right (by decide) (by decide))
/-! ### _law_pick -/
def sp__law_pick (K : PySem.W.Frag) : Sp := fun vs H Q _ => ∃ (st scr : Addr) (v : V), vs = [.ref st, v] ∧ DrAt H st scr ∧
  ((∃ z : Str, v = .str z ∧ 0 < z.length ∧ z.length ≤ 1000 ∧ ∀ (c : Nat) (l : List V), c ∈ z.cps.toList → DrAt (upd H st (.lst l)) st scr → Q (.str ⟨#[c]⟩) (upd H st (.lst l))) ∨
    ∃ (p : Addr) (xs : List V), v = .ref p ∧ H p = some (.lst xs) ∧ p ≠ st ∧ 0 < xs.length ∧ xs.length ≤ 1000 ∧ ∀ (x : V) (l : List V), x ∈ xs → DrAt (upd H st (.lst l)) st scr → Q x (upd H st (.lst l)))
theorem len__law_pick {vs : List V} {H : Hp} {Q : VK} {E : XK} (h : sp__law_pick K vs H Q E) : vs.length = 2 := by
  obtain ⟨_, _, _, rfl, _⟩ := h
  rfl
theorem ok__law_pick {f : Addr} {fd : FuncData} {f__law_draw : Addr} {fd__law_draw : FuncData} (F : Fun K "_law_pick" "_law_pick" s__law_pick f fd) (T : Gs K mg t_DIGITS t_LETTERS t_LONGEST_NAME a_DEEDS a_MARKS a_RESERVED a_SIGNS a_BadName a_BadPlan a_BadText a_ElseputError a_Plan a_Reader) (c__law_draw : Cal P w K mg base CX0 1 "_law_draw" f__law_draw fd__law_draw ["_law_state_here", "_law_many"] (sp__law_draw K)) : FnOk P w K mg base CX0 2 f fd ["_law_state_here", "_law_row"] (sp__law_pick K) := by
  refine F.ok sc__law_pick (fun vs H Q E h => len__law_pick h) (fun cdv A outer s H vs Q E hr h => ?_)
  obtain ⟨st, scr, v, rfl, hd, h⟩ := h
  refine ⟨_, (pss_one (ps_ret (e_x K (v_ 1) (pe_call c__law_draw.G (hr.mono (by first | decide | omega)) rfl c__law_draw.m c__law_draw.kp c__law_draw.b .nil pass0 (pa_cons (v_ 0) (pa_cons (pe_callB (lenK K) (by rfl) T.z_len PySem.boot_len (pa_cons (v_ 1) pa_nil)) pa_nil)))))), ?_⟩
  rcases h with ⟨z, rfl, h0, h1, q⟩ | ⟨p, xs, rfl, hp, hne, h0, h1, q⟩
  · refine ⟨line_of (by omega), st, scr, _, rfl, hd, by omega, many_small (by omega) (by omega), fun r l r0 r1 hd' => ?_⟩
    obtain ⟨c, hc, hm⟩ := at_str r0 r1
    exact ⟨line_of (by omega), c, hc, q c l hm hd'⟩
  · refine .inl ⟨_, .inl (SqL.of hp), st, scr, _, rfl, hd, by omega, many_small (by omega) (by omega), fun r l r0 r1 hd' => ?_⟩
    obtain ⟨x, hx, hm⟩ := at_list r0 r1
    exact ⟨_, .inl (SqL.of (by rw [upd_ne hne]; exact hp)), x, hx, q x l hm hd'⟩

theorem cutV_take (xs : List V) {k : Int} (h : 0 ≤ k) : cutV xs none (some k) = xs.take k.toNat := by
  unfold cutV
  have e := HT.sIx_nat xs.length xs.length k.toNat
  rw [show ((k.toNat : Nat) : Int) = k by omega] at e
  rw [e, HT.sIx_none, List.drop_zero]
  by_cases hk : k.toNat ≤ xs.length
  · rw [Nat.min_eq_left hk, Nat.sub_zero]
  · rw [Nat.min_eq_right (by omega), Nat.sub_zero, List.take_length, List.take_of_length_le (by omega)]
theorem cutV_drop (xs : List V) {k : Int} (h : 0 ≤ k) : cutV xs (some k) none = xs.drop k.toNat := by
  unfold cutV
  have e := HT.sIx_nat xs.length 0 k.toNat
  rw [show ((k.toNat : Nat) : Int) = k by omega] at e
  rw [e, HT.sIx_none]
  by_cases hk : k.toNat ≤ xs.length
  · rw [Nat.min_eq_left hk, List.take_of_length_le (by rw [List.length_drop]; omega)]
  · rw [Nat.min_eq_right (by omega), List.drop_of_length_le (Nat.le_refl _), List.drop_of_length_le (by omega)]
    exact List.take_nil
def sp_check_name (K : PySem.W.Frag) : Sp := fun vs H Q E => ∃ z : Str, vs = [.str z] ∧ z.length ≤ 1000 ∧ Asc z ∧ (if isName z = true then ∀ H', Same H H' → Q .non H' else BadN K H z E)
theorem len_check_name {vs : List V} {H : Hp} {Q : VK} {E : XK} (h : sp_check_name K vs H Q E) : vs.length = 1 := by
  obtain ⟨_, rfl, _⟩ := h
  rfl
theorem ok_check_name {f : Addr} {fd : FuncData} {f_is_name : Addr} {fd_is_name : FuncData} {f_BadName : Addr} {fd_BadName : FuncData} (F : Fun K "check_name" "check_name" s_check_name f fd) (T : Gs K mg t_DIGITS t_LETTERS t_LONGEST_NAME a_DEEDS a_MARKS a_RESERVED a_SIGNS a_BadName a_BadPlan a_BadText a_ElseputError a_Plan a_Reader) (c_is_name : Cal P w K mg base CX0 1 "is_name" f_is_name fd_is_name ["text"] (sp_is_name K)) (c_BadName : CalE P w K mg base 1 "BadName" a_BadName f_BadName fd_BadName ["self", "name"] okx_BadName fs_BadName ["name"]) : FnOk P w K mg base (L2.CX P w) 3 f fd ["text"] (sp_check_name K) := by
  refine F.okX sc_check_name (fun vs H Q E h => len_check_name h) (fun cdv A outer s H vs Q E hr h => ?_)
  obtain ⟨z, rfl, h0, h1, q⟩ := h
  refine ⟨_, (pss_one (ps_if (pt_not (pt_t K (pe_call c_is_name.G (hr.mono (by first | decide | omega)) rfl c_is_name.m c_is_name.kp c_is_name.b .nil pass0 (pa_cons (v_ 0) pa_nil)))) (pss_one (ps_raise rfl (takes_of rfl rfl rfl rfl) (pmk_oex c_BadName.X.oex c_BadName.X.iC c_BadName.X.tI c_BadName.G (hr.mono (by first | decide | omega)) c_BadName.b .nil pass0 rfl c_BadName.m (pa_cons (v_ 0) pa_nil)))) pss_nil)), ?_⟩
  refine ⟨z, rfl, h0, fun H' s => ?_⟩
  refine ite2 (fun e => ?_) (fun e => ?_)
  · have e : ¬ isName z = true := by
      have e : (!isName z) = true := e
      rw [Bool.not_eq_true'] at e
      rw [e]
      decide
    rw [if_neg e] at q
    refine mk_spE (by show 1 ≤ 1000; decide) ⟨z, rfl, h0, h1⟩ (fun d nd => ?_)
    exact q a_BadName d _ T.n_BadName (s.trans (same_new nd)) (Same.free s nd) upd_same
  · have e : isName z = true := by
      have e : ¬ (!isName z) = true := e
      rw [Bool.not_eq_true, Bool.not_eq_false'] at e
      exact e
    rw [if_pos e] at q
    exact q H' s
theorem take_snoc {α : Type} {xs : List α} {i : Nat} {x : α} (h : xs[i]? = some x) : xs.take (i + 1) = xs.take i ++ [x] := by
  rw [List.take_add_one, h]
  rfl
theorem SqT.same {K : PySem.W.Frag} {H H' : Hp} {a : Addr} {xs : List V} (h : SqT K H a xs) (s : Same H H') : SqT K H' a xs := by
  rcases h with (h | ⟨o, h⟩) | h
  · exact .inl (.inl (s _ _ h))
  · exact .inl (.inr ⟨o, s _ _ h⟩)
  · exact .inr h
/-- no tuple stands at st -/
def NT (H : Hp) (st : Addr) : Prop := ∀ xs : List V, H st ≠ some (.tup xs) ∧ ∀ o, H st ≠ some (.frz o (.tup xs))
theorem NT.lst {H : Hp} {st : Addr} (h : ∃ l, H st = some (.lst l)) : NT H st := fun xs => by
  obtain ⟨l, h⟩ := h
  rw [h]
  exact ⟨(fun e => by cases e), (fun o e => by cases e)⟩
theorem NT.ins {H : Hp} {st C dx : Addr} {fs : List (Str × V)} (h : H st = some (.ins C dx fs)) : NT H st := fun xs => by
  rw [h]
  exact ⟨(fun e => by cases e), (fun o e => by cases e)⟩
theorem SqT.bt {K : PySem.W.Frag} {H H' : Hp} {a st : Addr} {xs : List V} (h : SqT K H a xs) (hs : NT H st) (s : Bt st H H') : SqT K H' a xs := by
  rcases h with (h | ⟨o, h⟩) | h
  · exact .inl (.inl (s _ _ (fun e => (hs xs).1 (e ▸ h)) h))
  · exact .inl (.inr ⟨o, s _ _ (fun e => (hs xs).2 o (e ▸ h)) h⟩)
  · exact .inr h
theorem ty_tup {K : PySem.W.Frag} {H : Hp} {a : Addr} {xs : List V} (h : SqT K H a xs) : TyX K H (.ref a) (.type "tuple") := by
  rcases h with (h | ⟨o, h⟩) | ⟨o, its, n, e, c, _⟩
  · exact .base (.tup h)
  · exact .fTuple h
  · exact .kTuple e c
/-! ### comprehensions without effects -/
/-- what such a comprehension has made by its turn i -/
def PvP (H1 : Hp) (D : Addr) (acc : Nat → List V) (i : Nat) (H' : Hp) : Prop := Same H1 H' ∧ H' D = some (.lst (acc i))
theorem pvp_start {H1 : Hp} {D : Addr} {acc : Nat → List V} (nD : H1 D = none) (h0 : acc 0 = []) : PvP H1 D acc 0 (upd H1 D (.lst [])) := ⟨same_new nD, by rw [upd_same, h0]⟩
theorem pvp_put {H1 H2 H4 : Hp} {D : Addr} {acc : Nat → List V} {i : Nat} {y : V} (nD : H1 D = none) (p : PvP H1 D acc i H2) (s : Same H2 H4) (e : acc (i + 1) = acc i ++ [y]) (l : (acc i).length < 100000) :
    ∃ a, H4 D = some (.lst a) ∧ a.length < sizeLine ∧ PvP H1 D acc (i + 1) (upd H4 D (.lst (a ++ [y]))) :=
  ⟨acc i, s _ _ p.2, line_lt l, fun b o hb => by rw [upd_ne (ne_of_none hb nD)]; exact s _ _ (p.1 _ _ hb), by rw [upd_same, e]⟩
theorem pvp_skip {H1 H2 H4 : Hp} {D : Addr} {acc : Nat → List V} {i : Nat} (p : PvP H1 D acc i H2) (s : Same H2 H4) (e : acc (i + 1) = acc i) : PvP H1 D acc (i + 1) H4 := ⟨p.1.trans s, by rw [e]; exact s _ _ p.2⟩
/-- those of the first i that pass -/
def keepF {α : Type} (xs : List α) (p : α → Bool) (f : α → V) (i : Nat) : List V := ((xs.take i).filter p).map f
theorem keepF_put {α : Type} {xs : List α} {p : α → Bool} {f : α → V} {i : Nat} {x : α} (e : xs[i]? = some x) (h : p x = true) : keepF xs p f (i + 1) = keepF xs p f i ++ [f x] := by
  unfold keepF
  rw [take_snoc e, List.filter_append, List.filter_cons_of_pos h, List.map_append]
  rfl
theorem keepF_skip {α : Type} {xs : List α} {p : α → Bool} {f : α → V} {i : Nat} {x : α} (e : xs[i]? = some x) (h : ¬ p x = true) : keepF xs p f (i + 1) = keepF xs p f i := by
  unfold keepF
  rw [take_snoc e, List.filter_append, List.filter_cons_of_neg h, List.filter_nil, List.append_nil]
theorem keepF_len {α : Type} {xs : List α} {p : α → Bool} {f : α → V} {i : Nat} : (keepF xs p f i).length ≤ xs.length := by
  unfold keepF
  rw [List.length_map]
  have h1 := List.length_filter_le p (xs.take i)
  rw [List.length_take] at h1
  omega
theorem keepF_all {α : Type} {xs : List α} {p : α → Bool} {f : α → V} {n : Nat} (h : n = xs.length) : keepF xs p f n = (xs.filter p).map f := by
  unfold keepF
  rw [h, List.take_length]
def mapF {α : Type} (xs : List α) (f : α → V) (i : Nat) : List V := (xs.take i).map f
theorem mapF_put {α : Type} {xs : List α} {f : α → V} {i : Nat} {x : α} (e : xs[i]? = some x) : mapF xs f (i + 1) = mapF xs f i ++ [f x] := by
  unfold mapF
  rw [take_snoc e, List.map_append]
  rfl
theorem mapF_len {α : Type} {xs : List α} {f : α → V} {i : Nat} : (mapF xs f i).length ≤ xs.length := by
  unfold mapF
  rw [List.length_map, List.length_take]
  omega
theorem mapF_all {α : Type} {xs : List α} {f : α → V} {n : Nat} (h : n = xs.length) : mapF xs f n = xs.map f := by
  unfold mapF
  rw [h, List.take_length]
/-! ### steps -/
abbrev Stp := Str × Str
abbrev tk (k : Str) : Stp := ("take", k)
abbrev lo (k : Str) : Stp := ("look", k)
abbrev fr (k : Str) : Stp := ("free", k)
def deeds : List Str := ["take", "look", "free"]
def looked (ps : List Stp) : List Str := (ps.filter fun p => decide (p.1 = ("look" : Str))).map (·.2)
def stepFits (ps : List Stp) (i : Nat) (p : Stp) : Bool := if p.1 = "free" ∧ tk p.2 ∉ ps.take i then false else decide (p.1 ∈ deeds) && decide (lo p.2 ∈ ps)
def stepsFit (ps : List Stp) : Bool := decide (ps ≠ []) && decide ps.Nodup && (List.range ps.length).all fun i => match ps[i]? with
  | some p => stepFits ps i p
  | none => false
def keysFit (ps : List Stp) (zs : List Str) : Bool := decide zs.Nodup && zs.all fun z => decide (lo z ∈ ps)
theorem pair_same {K : PySem.W.Frag} {H H' : Hp} {v : V} {p : Stp} (h : PairAt K H v p) (s : Same H H') : PairAt K H' v p := by
  obtain ⟨r, e, h⟩ := h
  exact ⟨r, e, SqT.same h s⟩
theorem pair_bt {K : PySem.W.Frag} {H H' : Hp} {st : Addr} {v : V} {p : Stp} (h : PairAt K H v p) (hs : NT H st) (s : Bt st H H') : PairAt K H' v p := by
  obtain ⟨r, e, h⟩ := h
  exact ⟨r, e, SqT.bt h hs s⟩
theorem pairs_map {K : PySem.W.Frag} {H H' : Hp} (f : ∀ v p, PairAt K H v p → PairAt K H' v p) {vs : List V} {ps : List Stp} (h : PairsIn K H vs ps) : PairsIn K H' vs ps := by
  induction h with
  | nil => exact .nil
  | cons a _ ih => exact .cons (f _ _ a) ih
theorem pairs_same {K : PySem.W.Frag} {H H' : Hp} {vs : List V} {ps : List Stp} (h : PairsIn K H vs ps) (s : Same H H') : PairsIn K H' vs ps := pairs_map (fun _ _ a => pair_same a s) h
theorem pairs_bt {K : PySem.W.Frag} {H H' : Hp} {st : Addr} {vs : List V} {ps : List Stp} (h : PairsIn K H vs ps) (hs : NT H st) (s : Bt st H H') : PairsIn K H' vs ps := pairs_map (fun _ _ a => pair_bt a hs s) h
theorem pairs_len {K : PySem.W.Frag} {H : Hp} {vs : List V} {ps : List Stp} (h : PairsIn K H vs ps) : vs.length = ps.length := by
  induction h with
  | nil => rfl
  | cons _ _ ih => rw [List.length_cons, List.length_cons, ih]
theorem pairs_at {K : PySem.W.Frag} {H : Hp} {vs : List V} {ps : List Stp} (h : PairsIn K H vs ps) : ∀ {i : Nat} {v : V}, vs[i]? = some v → ∃ p, ps[i]? = some p ∧ PairAt K H v p := by
  induction h with
  | nil => intro i v e; simp at e
  | @cons a p as ps h1 _ ih =>
    intro i v e
    cases i with
    | zero => cases e; exact ⟨p, rfl, h1⟩
    | succ i => exact ih e
theorem pairs_to {K : PySem.W.Frag} {H : Hp} {vs : List V} {ps : List Stp} (h : PairsIn K H vs ps) {i : Nat} {p : Stp} (e : ps[i]? = some p) : ∃ v, vs[i]? = some v ∧ PairAt K H v p := by
  have l := pairs_len h
  have il := (List.getElem?_eq_some_iff.mp e).1
  obtain ⟨q, e2, hq⟩ := pairs_at h (List.getElem?_eq_getElem (show i < vs.length by omega))
  rw [e] at e2
  cases e2
  exact ⟨_, List.getElem?_eq_getElem (by omega), hq⟩
theorem pairs_take {K : PySem.W.Frag} {H : Hp} {vs : List V} {ps : List Stp} (h : PairsIn K H vs ps) : ∀ n, PairsIn K H (vs.take n) (ps.take n) := by
  induction h with
  | nil => intro n; rw [List.take_nil, List.take_nil]; exact .nil
  | cons a _ ih =>
    intro n
    cases n with
    | zero => exact .nil
    | succ n => exact .cons a (ih n)
theorem pairs_snoc {K : PySem.W.Frag} {H : Hp} {vs : List V} {ps : List Stp} {v : V} {p : Stp} (h : PairsIn K H vs ps) (a : PairAt K H v p) : PairsIn K H (vs ++ [v]) (ps ++ [p]) := by
  induction h with
  | nil => exact .cons a .nil
  | cons b _ ih => exact .cons b ih
/-- a tuple of steps -/
def StT (K : PySem.W.Frag) (H : Hp) (t : Addr) (ps : List Stp) : Prop := ∃ vs, SqT K H t vs ∧ PairsIn K H vs ps
theorem StT.same {K : PySem.W.Frag} {H H' : Hp} {t : Addr} {ps : List Stp} (h : StT K H t ps) (s : Same H H') : StT K H' t ps := by
  obtain ⟨vs, h1, h2⟩ := h
  exact ⟨vs, SqT.same h1 s, pairs_same h2 s⟩
theorem StT.bt {K : PySem.W.Frag} {H H' : Hp} {st t : Addr} {ps : List Stp} (h : StT K H t ps) (hs : NT H st) (s : Bt st H H') : StT K H' t ps := by
  obtain ⟨vs, h1, h2⟩ := h
  exact ⟨vs, SqT.bt h1 hs s, pairs_bt h2 hs s⟩
/-- a new pair -/
theorem pair_new {K : PySem.W.Frag} {H : Hp} {r : Addr} {a b : Str} : PairAt K (upd H r (.tup [.str a, .str b])) (.ref r) (a, b) := ⟨r, rfl, SqT.of upd_same⟩
/-- a tuple of texts -/
def TxT (K : PySem.W.Frag) (H : Hp) (t : Addr) (zs : List Str) : Prop := SqT K H t (zs.map V.str)
/-- texts in a list or a tuple -/
def TxS (K : PySem.W.Frag) (H : Hp) (t : Addr) (zs : List Str) : Prop := SqT K H t (zs.map V.str) ∨ SqL K H t (zs.map V.str)
theorem TxS.same {K : PySem.W.Frag} {H H' : Hp} {t : Addr} {zs : List Str} (h : TxS K H t zs) (s : Same H H') : TxS K H' t zs := h.imp (fun h => SqT.same h s) (fun h => s.seq h)
/-- a plan -/
def PlAt (K : PySem.W.Frag) (H : Hp) (a : Addr) (ps : List Stp) (lk kp : List Str) : Prop := ∃ C dx t l k : Addr, PySem.W.nsIn K mainGlobals "Plan" = some (some (.ref C)) ∧ H a = some (.ins C dx [("steps", .ref t), ("locked", .ref l), ("kept", .ref k)]) ∧ StT K H t ps ∧ TxT K H l lk ∧ TxT K H k kp
theorem PlAt.same {K : PySem.W.Frag} {H H' : Hp} {a : Addr} {ps : List Stp} {lk kp : List Str} (h : PlAt K H a ps lk kp) (s : Same H H') : PlAt K H' a ps lk kp := by
  obtain ⟨C, dx, t, l, k, h1, h2, h3, h4, h5⟩ := h
  exact ⟨C, dx, t, l, k, h1, s _ _ h2, h3.same s, SqT.same h4 s, SqT.same h5 s⟩
theorem PlAt.bt {K : PySem.W.Frag} {H H' : Hp} {st a : Addr} {ps : List Stp} {lk kp : List Str} (h : PlAt K H a ps lk kp) (hs : ∃ l, H st = some (.lst l)) (s : Bt st H H') : PlAt K H' a ps lk kp := by
  obtain ⟨C, dx, t, l, k, h1, h2, h3, h4, h5⟩ := h
  refine ⟨C, dx, t, l, k, h1, s _ _ (fun e => ?_) h2, h3.bt (NT.lst hs) s, SqT.bt h4 (NT.lst hs) s, SqT.bt h5 (NT.lst hs) s⟩
  obtain ⟨l, e2⟩ := hs
  rw [e, e2] at h2
  cases h2
end
section
variable {P : Program} {w : World} {K : PySem.W.Frag} {mg : Str → Option Value} {base : Heap}
variable {t_DIGITS t_LETTERS t_LONGEST_NAME : Tok} {a_DEEDS a_MARKS a_RESERVED a_SIGNS a_BadName a_BadPlan a_BadText a_ElseputError a_Plan a_Reader : Addr}
/-! ### looked_at -/
def sp_looked_at (K : PySem.W.Frag) : Sp := fun vs H Q _ => ∃ (t : Addr) (ps : List Stp), vs = [.ref t] ∧ StT K H t ps ∧ ps.length < 64 ∧ ∀ H' r, Same H H' → H r = none → H' r = some (.tup ((looked ps).map V.str)) → Q (.ref r) H'
theorem len_looked_at {vs : List V} {H : Hp} {Q : VK} {E : XK} (h : sp_looked_at K vs H Q E) : vs.length = 1 := by
  obtain ⟨_, _, rfl, _⟩ := h
  rfl
theorem ok_looked_at {f : Addr} {fd : FuncData} (F : Fun K "looked_at" "looked_at" s_looked_at f fd) (T : Gs K mg t_DIGITS t_LETTERS t_LONGEST_NAME a_DEEDS a_MARKS a_RESERVED a_SIGNS a_BadName a_BadPlan a_BadText a_ElseputError a_Plan a_Reader) : FnOk P w K mg base CX0 1 f fd ["steps"] (sp_looked_at K) := by
  refine F.ok sc_looked_at (fun vs H Q E h => len_looked_at h) (fun cdv A outer s H vs Q E hr h => ?_)
  obtain ⟨t, ps, rfl, ⟨vs, ht, hp⟩, few, q⟩ := h
  refine ⟨_, (pss_one (ps_ret (pe_callTy (tupleK K) (by rfl) T.z_tuple (by decide +kernel) (pa_cons (pe_lc (own := [("deed", 1), ("key", 2)]) (g := gTup K 2 (gCons (gName 1) (gCons (gName 2) gNil))) (by rfl) sc_looked_at.nd (pi_tup (v_ 0)) (blkOk_by (N := ["steps", "deed", "key"]) (sc := defScope s_looked_at) (by decide +kernel)) (fun _ _ _ _ _ => pg_tupK K (by rfl) (pgs_cons (pg_name (i := 1) sc_looked_at.nd rfl (Or.inl rfl)) (pgs_cons (pg_name (i := 2) sc_looked_at.nd rfl (Or.inl rfl)) pgs_nil))) (fun _ _ _ _ _ => pts_one (pt_c (eqK K hr.units) (v_ 1) pe_str)) (fun _ _ _ _ _ => (v_ 2))) pa_nil)))), ?_⟩
  have vl := pairs_len hp
  refine ⟨t, rfl, ⟨_, ht⟩, fun D nD => ?_⟩
  refine lc_it (walk_tup (xs := vs)) (PvP H D (keepF ps (fun p => decide (p.1 = ("look" : Str))) fun p => .str p.2)) (pvp_start nD rfl) (fun _ _ _ h => SqT.same ht h.1) ?_ ?_
  · rintro i v H1 H2 hi pv ⟨rfl, hv⟩
    obtain ⟨⟨d, k⟩, e, r, rfl, hr⟩ := pairs_at (pairs_same hp pv.1) hv
    refine ⟨r, _, rfl, hr, rfl, _, _, rfl, _, _, rfl, rfl, rfl, ?_⟩
    refine ite2 (fun c => ?_) (fun c => ?_)
    · exact pvp_put nD pv (Same.refl _) (keepF_put e c) (Nat.lt_of_le_of_lt keepF_len (by omega))
    · exact pvp_skip pv (Same.refl _) (keepF_skip e c)
  · rintro H1 ⟨sm, hD⟩
    rw [keepF_all vl] at hD
    refine ⟨D, _, rfl, .inl ⟨SqL.of hD, fun r nr => ?_⟩⟩
    refine q _ r (sm.trans (same_new nr)) (Same.free sm nr) ?_
    rw [upd_same]
    unfold looked
    rw [List.map_map]
    rfl
/-! ### step_fits, steps_fit, keys_fit -/
theorem inV_deeds {d : Str} : inV (.str d) [.str "take", .str "look", .str "free"] = decide (d ∈ deeds) := inV_str (xs := deeds)
theorem mem_pair {K : PySem.W.Frag} {H : Hp} {r : Addr} {a b : Str} {o : HO} (h : H r = some o) (e : o = .tup [.str a, .str b]) : PairAt K H (.ref r) (a, b) := ⟨r, rfl, SqT.of (by rw [h, e])⟩
def sp_step_fits (K : PySem.W.Frag) : Sp := fun vs H Q _ => ∃ (t : Addr) (ps : List Stp) (i : Nat) (p : Stp), vs = [.ref t, .int (i : Int)] ∧ StT K H t ps ∧ ps.length < 64 ∧ ps[i]? = some p ∧ ∀ H', Same H H' → Q (.bl (stepFits ps i p)) H'
theorem len_step_fits {vs : List V} {H : Hp} {Q : VK} {E : XK} (h : sp_step_fits K vs H Q E) : vs.length = 2 := by
  obtain ⟨_, _, _, _, rfl, _⟩ := h
  rfl
theorem ok_step_fits {f : Addr} {fd : FuncData} (F : Fun K "step_fits" "step_fits" s_step_fits f fd) (T : Gs K mg t_DIGITS t_LETTERS t_LONGEST_NAME a_DEEDS a_MARKS a_RESERVED a_SIGNS a_BadName a_BadPlan a_BadText a_ElseputError a_Plan a_Reader) : FnOk P w K mg base CX0 1 f fd ["steps", "at"] (sp_step_fits K) := by
  refine F.ok sc_step_fits (fun vs H Q E h => len_step_fits h) (fun cdv A outer s H vs Q E hr h => ?_)
  obtain ⟨t, ps, i, ⟨d, k⟩, rfl, ⟨vs, ht, hp⟩, few, ei, q⟩ := h
  refine ⟨_, (pss_cons (ps_asg (e_x K (v_ 0) (v_ 1)) (pg_tup (by rfl) (pgs_cons (pg_name (i := 2) sc_step_fits.nd rfl (.inl rfl)) (pgs_cons (pg_name (i := 3) sc_step_fits.nd rfl (.inl rfl)) pgs_nil)))) (pss_cons (ps_if (PW.pt (pw_and (pt_c (eqK K hr.units) (v_ 2) pe_str) (pw_and1 (pt_c (notInP K hr.units) (pe_tup (pa_cons pe_str (pa_cons (v_ 3) pa_nil))) (pe_slice (slK K) (v_ 0) po_none (po_some (v_ 1))))))) (pss_one (ps_ret pe_bl)) pss_nil) (pss_one (ps_ret (pe_andM (pe_c (inK K) (v_ 2) (pe_glob (v := .ref a_DEEDS) rfl T.g_DEEDS rfl)) (pe_one (pe_c (inP K hr.units) (pe_tup (pa_cons pe_str (pa_cons (v_ 3) pa_nil))) (v_ 0)))))))), ?_⟩
  obtain ⟨v, ev, r, rfl, hr⟩ := pairs_to hp ei
  have il := (List.getElem?_eq_some_iff.mp ei).1
  have vl := pairs_len hp
  refine ⟨vs, .inr ht, _, atI_nat ev, r, _, rfl, hr, rfl, _, _, rfl, _, _, rfl, rfl, ?_⟩
  have out : d = "free" → tk k ∉ ps.take i → stepFits ps i (d, k) = false := fun a b => if_pos ⟨a, b⟩
  have into : ¬ (d = "free" ∧ tk k ∉ ps.take i) → stepFits ps i (d, k) = (decide (d ∈ deeds) && decide (lo k ∈ ps)) := fun h => if_neg h
  refine ite2 (fun c => ?_) (fun c => ?_)
  · have c : d = "free" := of_decide_eq_true c
    refine ⟨(by show 2 ≤ sizeLine; decide), fun p np => ?_⟩
    have s1 := same_new (o := .tup [.str "take", .str k]) np
    have whole : ¬ (HT.sIx vs.length 0 none = 0 ∧ HT.sIx vs.length vs.length (some (i : Int)) = vs.length) := by
      rw [HT.sIx_nat]
      omega
    refine ⟨(i : Int), rfl, .inr ⟨t, vs, rfl, SqT.same ht s1, whole, fun u nu => ?_⟩⟩
    rw [cutV_take _ (by omega), show ((i : Int)).toNat = i from rfl]
    have HS := s1.trans (same_new (o := .tup (vs.take i)) nu)
    refine ⟨tk k, u, vs.take i, ps.take i, pair_same pair_new (same_new nu), rfl, .inl (SqT.of upd_same), pairs_take (pairs_same hp HS) i, ?_⟩
    refine ite2 (fun c2 => ?_) (fun c2 => ?_)
    · have z := q _ HS
      rw [out c (of_decide_eq_true c2)] at z
      exact z
    · have fit := into fun h => c2 (decide_eq_true h.2)
      refine ⟨_, .inr (T.q_DEEDS _), rfl, rfl, ?_⟩
      have eb : inV (.str d) [.str "take", .str "look", .str "free"] = decide (d ∈ deeds) := inV_deeds
      refine ite2 (fun c1 => ?_) (fun c1 => ?_)
      · refine ⟨(by show 2 ≤ sizeLine; decide), fun u nu => ?_⟩
        have s2 := HS.trans (same_new (o := .tup [.str "look", .str k]) nu)
        refine ⟨lo k, t, vs, ps, pair_new, rfl, .inl (SqT.same ht s2), pairs_same hp s2, ?_⟩
        have z := q _ s2
        rw [fit, show decide (d ∈ deeds) = true from eb.symm.trans c1, Bool.true_and] at z
        exact z
      · have z := q _ HS
        have n : decide (d ∈ deeds) = false := eb.symm.trans (Bool.eq_false_iff.mpr c1)
        rw [fit, n, Bool.false_and] at z
        exact z
  · have c : d ≠ "free" := fun h => c (decide_eq_true h)
    · have fit := into fun h => c h.1
      have HS := Same.refl H
      refine ⟨_, .inr (T.q_DEEDS _), rfl, rfl, ?_⟩
      have eb : inV (.str d) [.str "take", .str "look", .str "free"] = decide (d ∈ deeds) := inV_deeds
      refine ite2 (fun c1 => ?_) (fun c1 => ?_)
      · refine ⟨(by show 2 ≤ sizeLine; decide), fun u nu => ?_⟩
        have s2 := HS.trans (same_new (o := .tup [.str "look", .str k]) nu)
        refine ⟨lo k, t, vs, ps, pair_new, rfl, .inl (SqT.same ht s2), pairs_same hp s2, ?_⟩
        have z := q _ s2
        rw [fit, show decide (d ∈ deeds) = true from eb.symm.trans c1, Bool.true_and] at z
        exact z
      · have z := q _ HS
        have n : decide (d ∈ deeds) = false := eb.symm.trans (Bool.eq_false_iff.mpr c1)
        rw [fit, n, Bool.false_and] at z
        exact z
def sp_steps_fit (K : PySem.W.Frag) : Sp := fun vs H Q _ => ∃ (t : Addr) (ps : List Stp), vs = [.ref t] ∧ StT K H t ps ∧ ps.length < 64 ∧ ∀ H', Same H H' → Q (.bl (stepsFit ps)) H'
theorem len_steps_fit {vs : List V} {H : Hp} {Q : VK} {E : XK} (h : sp_steps_fit K vs H Q E) : vs.length = 1 := by
  obtain ⟨_, _, rfl, _⟩ := h
  rfl
def fitAt (ps : List Stp) (i : Nat) : Bool := match ps[i]? with
  | some p => stepFits ps i p
  | none => false
theorem ok_steps_fit {f : Addr} {fd : FuncData} {f_step_fits : Addr} {fd_step_fits : FuncData} (F : Fun K "steps_fit" "steps_fit" s_steps_fit f fd) (T : Gs K mg t_DIGITS t_LETTERS t_LONGEST_NAME a_DEEDS a_MARKS a_RESERVED a_SIGNS a_BadName a_BadPlan a_BadText a_ElseputError a_Plan a_Reader) (c_step_fits : Cal P w K mg base CX0 1 "step_fits" f_step_fits fd_step_fits ["steps", "at"] (sp_step_fits K)) : FnOk P w K mg base CX0 2 f fd ["steps"] (sp_steps_fit K) := by
  refine F.ok sc_steps_fit (fun vs H Q E h => len_steps_fit h) (fun cdv A outer s H vs Q E hr h => ?_)
  obtain ⟨t, ps, rfl, ⟨vs, ht, hp⟩, few, q⟩ := h
  refine ⟨_, (pss_cons (ps_if (PW.pt (pw_or (pt_c (eqK K hr.units) (pe_callB (lenK K) (by rfl) T.z_len PySem.boot_len (pa_cons (v_ 0) pa_nil)) pe_int) (pw_or1 (pt_c op_ltM (pe_lenSetP K (by rfl) T.z_len (by rfl) T.z_set hr.units (v_ 0)) (pe_callB (lenK K) (by rfl) T.z_len PySem.boot_len (pa_cons (v_ 0) pa_nil)))))) (pss_one (ps_ret pe_bl)) pss_nil) (pss_one (ps_ret (pe_callB (allK K rfl) (by rfl) T.z_all (by decide +kernel) (pa_cons (pe_lc (own := [("at", 1)]) (g := gName 1) (by rfl) sc_steps_fit.nd (pi_range1 rfl T.z_range (pa_cons (pe_callB (lenK K) (by rfl) T.z_len PySem.boot_len (pa_cons (v_ 0) pa_nil)) pa_nil)) (blkOk_by (N := ["steps", "at"]) (sc := defScope s_steps_fit) (by decide +kernel)) (fun _ _ _ _ _ => pg_name (i := 1) sc_steps_fit.nd rfl (Or.inl rfl)) (fun _ _ _ _ _ => pts_nil) (fun _ _ _ _ _ => (pe_call c_step_fits.G (hr.mono (by first | decide | omega)) rfl c_step_fits.m c_step_fits.kp c_step_fits.b .nil pass0 (pa_cons (v_ 0) (pa_cons (v_ 1) pa_nil))))) pa_nil))))), ?_⟩
  have vl := pairs_len hp
  have no : (ps = [] ∨ ¬ ps.Nodup) → stepsFit ps = false := fun h => by
    unfold stepsFit
    rcases h with h | h
    · rw [h]; rfl
    · rw [decide_eq_false h, Bool.and_false, Bool.false_and]
  refine .inl ⟨_, .inr ht, ?_⟩
  refine ite2 (fun c => ?_) (fun c => ?_)
  · have c : (vs.length : Int) = 0 := of_decide_eq_true c
    have z := q H (Same.refl H)
    rw [no (.inl (List.eq_nil_of_length_eq_zero (by omega)))] at z
    exact z
  have ne : ps ≠ [] := fun h => c (decide_eq_true (by rw [vl, h]; rfl))
  refine ⟨t, vs, ps, rfl, ht, hp, few, fun n n1 n2 => ?_⟩
  refine .inl ⟨_, .inr ht, ?_⟩
  refine ite2 (fun c1 => ?_) (fun c1 => ?_)
  · have c1 : (n : Int) < vs.length := of_decide_eq_true c1
    have z := q H (Same.refl H)
    rw [no (.inr fun h => by have := n2.mpr h; omega)] at z
    exact z
  have nd : ps.Nodup := n2.mp (by have c1 : ¬ (n : Int) < vs.length := of_decide_eq_false (Bool.eq_false_iff.mpr c1); omega)
  have yes : stepsFit ps = (List.range ps.length).all (fitAt ps) := by
    unfold stepsFit
    rw [decide_eq_true ne, decide_eq_true nd]
    rfl
  refine .inl ⟨_, .inr ht, vs.length, rfl, by omega, by omega, fun D nD => ?_⟩
  refine lc_it (walk_range (lo := 0) (n := vs.length)) (PvP H D (mapF (List.range ps.length) fun i => .bl (fitAt ps i))) (pvp_start nD rfl) (fun _ _ _ _ => trivial) ?_ ?_
  · rintro i v H1 H2 hi pv ⟨rfl, hv⟩
    cases hv
    have il : i < ps.length := by omega
    obtain ⟨p, ep⟩ : ∃ p, ps[i]? = some p := ⟨_, List.getElem?_eq_getElem il⟩
    refine ⟨rfl, t, ps, i, p, ?_, (show StT K H t ps from ⟨vs, ht, hp⟩).same pv.1, few, ep, fun H3 s3 => ?_⟩
    · show [V.ref t, V.int (0 + (i : Int))] = _
      rw [Int.zero_add]
    refine pvp_put nD pv s3 ?_ (Nat.lt_of_le_of_lt mapF_len (by rw [List.length_range]; omega))
    rw [mapF_put (x := i) (by rw [List.getElem?_range il])]
    unfold fitAt
    rw [ep]
  · rintro H1 ⟨sm, hD⟩
    rw [mapF_all (by rw [List.length_range]; exact vl)] at hD
    refine ⟨D, (List.range ps.length).map (fitAt ps), rfl, SqL.of (by rw [hD, List.map_map]; rfl), ?_⟩
    have z := q _ sm
    rw [yes] at z
    rw [List.all_map]
    exact z
def sp_keys_fit (K : PySem.W.Frag) : Sp := fun vs H Q _ => ∃ (t l : Addr) (ps : List Stp) (zs : List Str), vs = [.ref t, .ref l] ∧ StT K H t ps ∧ TxS K H l zs ∧ ps.length < 64 ∧ zs.length < 64 ∧ ∀ H', Same H H' → Q (.bl (keysFit ps zs)) H'
theorem len_keys_fit {vs : List V} {H : Hp} {Q : VK} {E : XK} (h : sp_keys_fit K vs H Q E) : vs.length = 2 := by
  obtain ⟨_, _, _, _, rfl, _⟩ := h
  rfl
theorem ok_keys_fit {f : Addr} {fd : FuncData} (F : Fun K "keys_fit" "keys_fit" s_keys_fit f fd) (T : Gs K mg t_DIGITS t_LETTERS t_LONGEST_NAME a_DEEDS a_MARKS a_RESERVED a_SIGNS a_BadName a_BadPlan a_BadText a_ElseputError a_Plan a_Reader) : FnOk P w K mg base CX0 1 f fd ["steps", "names"] (sp_keys_fit K) := by
  refine F.ok sc_keys_fit (fun vs H Q E h => len_keys_fit h) (fun cdv A outer s H vs Q E hr h => ?_)
  obtain ⟨t, l, ps, zs, rfl, ht, hl, few, fewz, q⟩ := h
  refine ⟨_, (pss_cons (ps_if (pt_c op_ltM (pe_lenSetS K (by rfl) T.z_len (by rfl) T.z_set (v_ 1)) (pe_callB (lenK K) (by rfl) T.z_len PySem.boot_len (pa_cons (v_ 1) pa_nil))) (pss_one (ps_ret pe_bl)) pss_nil) (pss_one (ps_ret (pe_callB (allK K rfl) (by rfl) T.z_all (by decide +kernel) (pa_cons (pe_lc (own := [("name", 2)]) (g := gName 2) (by rfl) sc_keys_fit.nd (pi_seqK K (v_ 1)) (blkOk_by (N := ["steps", "names", "name"]) (sc := defScope s_keys_fit) (by decide +kernel)) (fun _ _ _ _ _ => pg_name (i := 2) sc_keys_fit.nd rfl (Or.inl rfl)) (fun _ _ _ _ _ => pts_nil) (fun _ _ _ _ _ => (pe_c (inP K hr.units) (pe_tup (pa_cons pe_str (pa_cons (v_ 2) pa_nil))) (v_ 0)))) pa_nil))))), ?_⟩
  refine ⟨l, zs, rfl, hl, fewz, fun n n1 n2 => ?_⟩
  refine .inl ⟨_, hl.symm, ?_⟩
  rw [List.length_map]
  refine ite2 (fun c => ?_) (fun c => ?_)
  · have c : (n : Int) < zs.length := of_decide_eq_true c
    have z := q H (Same.refl H)
    unfold keysFit at z
    rw [decide_eq_false fun h => by have := n2.mpr h; omega] at z
    exact z
  have nd : zs.Nodup := n2.mp (by have c : ¬ (n : Int) < zs.length := of_decide_eq_false (Bool.eq_false_iff.mpr c); omega)
  have turn : ∀ (D : Addr) (nD : H D = none) (i : Nat) (z : Str) (H1 : Hp) (_ : zs[i]? = some z) (_ : PvP H D (mapF zs fun z => .bl (decide (lo z ∈ ps))) i H1), (2 ≤ sizeLine ∧ ∀ u, H1 u = none → ∃ (p : Stp) (l : Addr) (vs : List V) (ps' : List Stp), PairAt K (upd H1 u (.tup [.str "look", .str z])) (.ref u) p ∧ (V.ref t : V) = .ref l ∧ (SqT K (upd H1 u (.tup [.str "look", .str z])) l vs ∨ SqL K (upd H1 u (.tup [.str "look", .str z])) l vs) ∧ PairsIn K (upd H1 u (.tup [.str "look", .str z])) vs ps' ∧
      ∃ acc, (upd H1 u (.tup [.str "look", .str z])) D = some (.lst acc) ∧ acc.length < sizeLine ∧ PvP H D (mapF zs fun z => .bl (decide (lo z ∈ ps))) (i + 1) (upd (upd H1 u (.tup [.str "look", .str z])) D (.lst (acc ++ [.bl (decide (p ∈ ps'))])))) := fun D nD i z H1 e pv => by
    refine ⟨by decide, fun u nu => ?_⟩
    have s2 := same_new (o := .tup [.str "look", .str z]) nu
    obtain ⟨vs, ht1, hp1⟩ := ht.same (pv.1.trans s2)
    exact ⟨lo z, t, vs, ps, pair_new, rfl, .inl ht1, hp1, pvp_put nD pv s2 (mapF_put e) (Nat.lt_of_le_of_lt mapF_len (by omega))⟩
  have done : ∀ (D : Addr) (H1 : Hp), PvP H D (mapF zs fun z => .bl (decide (lo z ∈ ps))) zs.length H1 → ∃ a bs, ([V.ref D] : List V) = [.ref a] ∧ SqL K H1 a (List.map V.bl bs) ∧ Q (.bl (bs.all id)) H1 := fun D H1 ⟨sm, hD⟩ => by
    rw [mapF_all rfl] at hD
    have z := q _ sm
    unfold keysFit at z
    rw [decide_eq_true nd, Bool.true_and] at z
    refine ⟨D, zs.map fun z => decide (lo z ∈ ps), rfl, SqL.of (by rw [hD, List.map_map]; rfl), ?_⟩
    rw [List.all_map]
    exact z
  have at_ : ∀ {i : Nat} {v : V}, (zs.map V.str)[i]? = some v → ∃ z, zs[i]? = some z ∧ v = .str z := fun e => by
    rw [List.getElem?_map] at e
    obtain ⟨z, e2, e3⟩ := Option.map_eq_some_iff.mp e
    exact ⟨z, e2, e3.symm⟩
  rcases hl with hl | hl
  · refine ⟨l, _, rfl, .inr ⟨hl, fun D nD => ?_⟩⟩
    refine lc_it (walk_tup (xs := zs.map V.str)) (PvP H D (mapF zs fun z => .bl (decide (lo z ∈ ps)))) (pvp_start nD rfl) (fun _ _ _ h => SqT.same hl h.1) ?_ ?_
    · rintro i v H1 H2 hi pv ⟨rfl, hv⟩
      obtain ⟨z, e, rfl⟩ := at_ hv
      exact ⟨rfl, turn D nD i z _ e pv⟩
    · intro H1 pv
      rw [List.length_map] at pv
      exact done D H1 pv
  · refine ⟨l, _, rfl, .inl ⟨hl, fun D nD => ?_⟩⟩
    refine lc_it (walk_list (xs := zs.map V.str)) (PvP H D (mapF zs fun z => .bl (decide (lo z ∈ ps)))) (pvp_start nD rfl) (fun _ _ _ h => h.1.seq hl) ?_ ?_
    · rintro i v H1 H2 hi pv ⟨rfl, hv⟩
      obtain ⟨z, e, rfl⟩ := at_ hv
      exact ⟨rfl, turn D nD i z _ e pv⟩
    · intro H1 pv
      rw [List.length_map] at pv
      exact done D H1 pv
/-! ### Plan.__init__ -/
def planNames (ps : List Stp) (lk kp : List Str) : List Str := ps.map (·.2) ++ lk ++ kp
def bad1 (zs : List Str) : Option Str := zs.find? fun z => !isName z
def planFits (ps : List Stp) (lk kp : List Str) : Bool := stepsFit ps && keysFit ps lk && keysFit ps kp
def among (ps : List Stp) (zs : List Str) : List Str := (looked ps).filter fun z => decide (z ∈ zs)
def PlanOut (K : PySem.W.Frag) (H : Hp) (x C dx : Addr) (ps : List Stp) (lk kp : List Str) (Q : VK) (E : XK) : Prop := match bad1 (planNames ps lk kp) with
  | some z => ∀ (B d : Addr) (H' : Hp), PySem.W.nsIn K mainGlobals "BadName" = some (some (.ref B)) → Bt x H H' → H d = none → H' d = some (.xd [("name", .str z)]) → E (.ref B) (some d) H'
  | none => if planFits ps lk kp = true then ∀ (H' : Hp), Bt x H H' → PlAt K H' x ps (among ps lk) (among ps kp) → (∃ fs, H' x = some (.ins C dx fs)) → Q .non H'
    else ∀ (B : Addr) (H' : Hp), PySem.W.nsIn K mainGlobals "BadPlan" = some (some (.ref B)) → Bt x H H' → E (.ref B) none H'
/-- a row of steps in a list -/
def StL (K : PySem.W.Frag) (H : Hp) (t : Addr) (ps : List Stp) : Prop := ∃ vs, SqL K H t vs ∧ PairsIn K H vs ps
theorem sqL_ins {K : PySem.W.Frag} {H H' : Hp} {a x C dx : Addr} {xs : List V} {fs : List (Str × V)} (h : SqL K H a xs) (hx : H x = some (.ins C dx fs)) (s : Bt x H H') : SqL K H' a xs := by
  rcases h with (h | ⟨o, h⟩) | h
  · exact .inl (.inl (s _ _ (fun e => by rw [e, hx] at h; cases h) h))
  · exact .inl (.inr ⟨o, s _ _ (fun e => by rw [e, hx] at h; cases h) h⟩)
  · exact .inr h
theorem txS_bt {K : PySem.W.Frag} {H H' : Hp} {a x C dx : Addr} {zs : List Str} {fs : List (Str × V)} (h : TxS K H a zs) (hx : H x = some (.ins C dx fs)) (s : Bt x H H') : TxS K H' a zs := h.imp (fun h => SqT.bt h (NT.ins hx) s) (fun h => sqL_ins h hx s)
theorem looked_len {ps : List Stp} : (looked ps).length ≤ ps.length := by
  unfold looked
  rw [List.length_map]
  exact List.length_filter_le _ _
def sp_Plan___init__ (K : PySem.W.Frag) : Sp := fun vs H Q E => ∃ (x t l k C dx : Addr) (ps : List Stp) (lk kp : List Str), vs = [.ref x, .ref t, .ref l, .ref k] ∧ PySem.W.nsIn K mainGlobals "Plan" = some (some (.ref C)) ∧ H x = some (.ins C dx []) ∧ StL K H t ps ∧ TxS K H l lk ∧ TxS K H k kp ∧
  ps.length < 64 ∧ lk.length < 64 ∧ kp.length < 64 ∧ (∀ z ∈ planNames ps lk kp, z.length ≤ 1000 ∧ Asc z) ∧ PlanOut K H x C dx ps lk kp Q E
theorem len_Plan___init__ {vs : List V} {H : Hp} {Q : VK} {E : XK} (h : sp_Plan___init__ K vs H Q E) : vs.length = 4 := by
  obtain ⟨_, _, _, _, _, _, _, _, _, rfl, _⟩ := h
  rfl
theorem bad_none {zs : List Str} (h : ∀ z ∈ zs, isName z = true) : bad1 zs = none := by
  unfold bad1
  rw [List.find?_eq_none]
  intro z hz
  rw [h z hz]
  decide
theorem bad_at {zs : List Str} {i : Nat} {z : Str} (h : ∀ y ∈ zs.take i, isName y = true) (e : zs[i]? = some z) (hz : ¬ isName z = true) : bad1 zs = some z := by
  have e1 : zs = zs.take i ++ zs.drop i := (List.take_append_drop i zs).symm
  obtain ⟨hi, e2⟩ := List.getElem?_eq_some_iff.mp e
  have e3 : zs.drop i = z :: zs.drop (i + 1) := by rw [List.drop_eq_getElem_cons hi, e2]
  unfold bad1
  rw [e1, List.find?_append, e3]
  have n := bad_none h
  unfold bad1 at n
  rw [n, List.find?_cons_of_pos (by rw [Bool.eq_false_iff.mpr hz]; rfl)]
  rfl
theorem ok_Plan___init__ {f : Addr} {fd : FuncData} {kws : List (Str × V)} {f_check_name : Addr} {fd_check_name : FuncData} {f_steps_fit : Addr} {fd_steps_fit : FuncData} {f_keys_fit : Addr} {fd_keys_fit : FuncData} {f_looked_at : Addr} {fd_looked_at : FuncData} {f_BadPlan : Addr} {fd_BadPlan : FuncData} (F : FunD K "__init__" "Plan.__init__" (defArgs s_Plan___init__) (defBody s_Plan___init__) (defScope s_Plan___init__) [] kws f fd) (T : Gs K mg t_DIGITS t_LETTERS t_LONGEST_NAME a_DEEDS a_MARKS a_RESERVED a_SIGNS a_BadName a_BadPlan a_BadText a_ElseputError a_Plan a_Reader) (c_check_name : Cal P w K mg base (L2.CX P w) 3 "check_name" f_check_name fd_check_name ["text"] (sp_check_name K)) (c_steps_fit : Cal P w K mg base CX0 2 "steps_fit" f_steps_fit fd_steps_fit ["steps"] (sp_steps_fit K)) (c_keys_fit : Cal P w K mg base CX0 1 "keys_fit" f_keys_fit fd_keys_fit ["steps", "names"] (sp_keys_fit K)) (c_looked_at : Cal P w K mg base CX0 1 "looked_at" f_looked_at fd_looked_at ["steps"] (sp_looked_at K)) (c_BadPlan : CalE0 P w K mg base 1 "BadPlan" a_BadPlan f_BadPlan fd_BadPlan ["self"]) : FnOk P w K mg base (L2.CX P w) 4 f fd ["self", "steps", "locked", "kept"] (sp_Plan___init__ K) := by
  refine F.ok (CX := (L2.CX P w)) sc_Plan___init__ (fun vs H Q E h => len_Plan___init__ h) (fun cdv A outer s H vs Q E hr h => ?_)
  obtain ⟨x, t, l, k, C, dx, ps, lk, kp, rfl, hC, hx, ⟨vs, ht, hp⟩, hl, hk, few, fl, fk, hz, q⟩ := h
  cases hC.symm.trans T.n_Plan
  refine ⟨_, (pss_cons (ps_fld (v_ 0) (pe_callTy (tupleK K) (by rfl) T.z_tuple (by decide +kernel) (pa_cons (pe_lc (own := [("deed", 5), ("key", 4)]) (g := gTup K 2 (gCons (gName 5) (gCons (gName 4) gNil))) (by rfl) sc_Plan___init__.nd (pi_list (v_ 1)) (blkOk_by (N := ["self", "steps", "locked", "kept", "key", "deed", "_"]) (sc := defScope s_Plan___init__) (by decide +kernel)) (fun _ _ _ _ _ => pg_tupK K (by rfl) (pgs_cons (pg_name (i := 5) sc_Plan___init__.nd rfl (Or.inl rfl)) (pgs_cons (pg_name (i := 4) sc_Plan___init__.nd rfl (Or.inl rfl)) pgs_nil))) (fun _ _ _ _ _ => pts_nil) (fun _ _ _ _ _ => (pe_tup (pa_cons (v_ 5) (pa_cons (v_ 4) pa_nil))))) pa_nil)) (by rfl)) (pss_cons (ps_for (passes_of rfl) rfl (pi_tup (pe_tup (StX.pa_star (pe_lc (own := [("_", 6), ("key", 4)]) (g := gTup K 2 (gCons (gName 6) (gCons (gName 4) gNil))) (by rfl) sc_Plan___init__.nd (pi_tup (e_f K (v_ 0))) (blkOk_by (N := ["self", "steps", "locked", "kept", "key", "deed", "_"]) (sc := defScope s_Plan___init__) (by decide +kernel)) (fun _ _ _ _ _ => pg_tupK K (by rfl) (pgs_cons (pg_name (i := 6) sc_Plan___init__.nd rfl (Or.inl rfl)) (pgs_cons (pg_name (i := 4) sc_Plan___init__.nd rfl (Or.inl rfl)) pgs_nil))) (fun _ _ _ _ _ => pts_nil) (fun _ _ _ _ _ => (v_ 4))) (StX.pa_star (v_ 2) (StX.pa_star (v_ 3) pa_nil))))) (pg_name (i := 4) sc_Plan___init__.nd rfl (.inl rfl)) (pss_one (ps_expr (pe_call c_check_name.G (hr.mono (by first | decide | omega)) rfl c_check_name.m c_check_name.kp c_check_name.b .nil (passes_call (takes_of rfl rfl rfl rfl) (fun _ _ _ _ h => h)) (pa_cons (v_ 4) pa_nil))))) (pss_cons (ps_if (PW.pt (pw_or (pt_not (pt_t K (pe_call c_steps_fit.G (hr.mono (by first | decide | omega)) rfl c_steps_fit.m c_steps_fit.kp c_steps_fit.b .nil pass0 (pa_cons (e_f K (v_ 0)) pa_nil)))) (pw_or (pt_not (pt_t K (pe_call c_keys_fit.G (hr.mono (by first | decide | omega)) rfl c_keys_fit.m c_keys_fit.kp c_keys_fit.b .nil pass0 (pa_cons (e_f K (v_ 0)) (pa_cons (v_ 2) pa_nil))))) (pw_or1 (pt_not (pt_t K (pe_call c_keys_fit.G (hr.mono (by first | decide | omega)) rfl c_keys_fit.m c_keys_fit.kp c_keys_fit.b .nil pass0 (pa_cons (e_f K (v_ 0)) (pa_cons (v_ 3) pa_nil))))))))) (pss_one (ps_raise rfl (takes_of rfl rfl rfl rfl) (pmk_none c_BadPlan.X.oex c_BadPlan.X.iC c_BadPlan.X.tI c_BadPlan.G (hr.mono (by first | decide | omega)) c_BadPlan.b pass0 rfl c_BadPlan.m))) pss_nil) (pss_cons (ps_fld (v_ 0) (pe_callTy (tupleK K) (by rfl) T.z_tuple (by decide +kernel) (pa_cons (pe_lc (own := [("key", 4)]) (g := gName 4) (by rfl) sc_Plan___init__.nd (pi_tup (pe_call c_looked_at.G (hr.mono (by first | decide | omega)) rfl c_looked_at.m c_looked_at.kp c_looked_at.b .nil pass0 (pa_cons (e_f K (v_ 0)) pa_nil))) (blkOk_by (N := ["self", "steps", "locked", "kept", "key", "deed", "_"]) (sc := defScope s_Plan___init__) (by decide +kernel)) (fun _ _ _ _ _ => pg_name (i := 4) sc_Plan___init__.nd rfl (Or.inl rfl)) (fun _ _ _ _ _ => pts_one (pt_c (inK K) (v_ 4) (v_ 2))) (fun _ _ _ _ _ => (v_ 4))) pa_nil)) (by rfl)) (pss_one (ps_fld (v_ 0) (pe_callTy (tupleK K) (by rfl) T.z_tuple (by decide +kernel) (pa_cons (pe_lc (own := [("key", 4)]) (g := gName 4) (by rfl) sc_Plan___init__.nd (pi_tup (pe_call c_looked_at.G (hr.mono (by first | decide | omega)) rfl c_looked_at.m c_looked_at.kp c_looked_at.b .nil pass0 (pa_cons (e_f K (v_ 0)) pa_nil))) (blkOk_by (N := ["self", "steps", "locked", "kept", "key", "deed", "_"]) (sc := defScope s_Plan___init__) (by decide +kernel)) (fun _ _ _ _ _ => pg_name (i := 4) sc_Plan___init__.nd rfl (Or.inl rfl)) (fun _ _ _ _ _ => pts_one (pt_c (inK K) (v_ 4) (v_ 3))) (fun _ _ _ _ _ => (v_ 4))) pa_nil)) (by rfl))))))), ?_⟩
  have vl := pairs_len hp
  refine ⟨t, rfl, ⟨_, ht⟩, fun D nD => ?_⟩
  -- the steps anew
  refine lc_it (walk_list (xs := vs)) (fun i H' => Same H H' ∧ ∃ us, H' D = some (.lst us) ∧ PairsIn K H' us (ps.take i)) ⟨same_new nD, [], upd_same, .nil⟩ (fun _ _ _ h => h.1.seq ht) ?_ ?_
  · rintro i v H1 H2 hi ⟨sm, us, hD, hus⟩ ⟨rfl, hv⟩
    obtain ⟨⟨d, z⟩, e, r, rfl, hr⟩ := pairs_at (pairs_same hp sm) hv
    refine ⟨r, _, rfl, hr, rfl, _, _, rfl, _, _, rfl, rfl, rfl, ?_⟩
    refine ⟨(by show 2 ≤ sizeLine; decide), fun u nu => ?_⟩
    have s2 := same_new (o := .tup [.str d, .str z]) nu
    have ul := pairs_len hus
    rw [List.length_take] at ul
    refine ⟨us, s2 _ _ hD, line_lt (by omega), fun b o hb => by rw [upd_ne (ne_of_none hb nD)]; exact s2 _ _ (sm _ _ hb), us ++ [.ref u], upd_same, ?_⟩
    have uD : u ≠ D := (ne_of_none hD nu).symm
    rw [take_snoc e]
    refine pairs_snoc (pairs_bt (pairs_same hus s2) (NT.lst ⟨_, s2 _ _ hD⟩) Bt.st) ⟨u, rfl, SqT.of ?_⟩
    rw [upd_ne uD, upd_same]
  rintro H1 ⟨s1, us, hD, hus⟩
  rw [vl, List.take_length] at hus
  refine ⟨D, us, rfl, .inl ⟨SqL.of hD, fun w nw => ?_⟩⟩
  have hxw : (upd H1 w (.tup us)) x = some (.ins a_Plan dx []) := by
    rw [upd_ne (ne_of_none (s1 _ _ hx) nw)]
    exact s1 _ _ hx
  refine ⟨x, a_Plan, dx, [], rfl, hxw, T.cl_Plan, T.na_Plan_steps, by decide, ?_⟩
  have b2 : Bt x H (upd (upd H1 w (.tup us)) x (.ins a_Plan dx [("steps", .ref w)])) := (Bt.same (s1.trans (same_new nw))).trans Bt.st
  have hx2 : (upd (upd H1 w (.tup us)) x (.ins a_Plan dx [("steps", .ref w)])) x = some (.ins a_Plan dx [("steps", .ref w)]) := upd_same
  have st2 : StT K (upd (upd H1 w (.tup us)) x (.ins a_Plan dx [("steps", .ref w)])) w ps := by
    have z := same_new (o := .tup us) nw
    exact ⟨us, SqT.bt (SqT.of upd_same) (NT.ins hxw) Bt.st, pairs_bt (pairs_same hus z) (NT.ins hxw) Bt.st⟩
  have hl2 := txS_bt hl hx b2
  have hk2 := txS_bt hk hx b2
  show (fun H2 => _) (upd (upd H1 w (.tup us)) x (.ins a_Plan dx [("steps", .ref w)]))
  generalize upd (upd H1 w (.tup us)) x (.ins a_Plan dx [("steps", .ref w)]) = H2 at b2 hx2 st2 hl2 hk2 ⊢
  clear hxw hD hus nw s1
  -- the names
  obtain ⟨us, hw, hus⟩ := id st2
  have ul := pairs_len hus
  refine ⟨x, a_Plan, dx, _, _, rfl, hx2, T.cl_Plan, T.na_Plan_steps, rfl, w, rfl, ⟨_, hw⟩, fun D nD => ?_⟩
  refine lc_it (walk_tup (xs := us)) (PvP H2 D (mapF ps fun p => .str p.2)) (pvp_start nD rfl) (fun _ _ _ h => SqT.same hw h.1) ?_ ?_
  · rintro i v H3 H4 hi pv ⟨rfl, hv⟩
    obtain ⟨⟨d, z⟩, e, r, rfl, hr⟩ := pairs_at (pairs_same hus pv.1) hv
    refine ⟨r, _, rfl, hr, rfl, _, _, rfl, _, _, rfl, rfl, rfl, ?_⟩
    exact pvp_put nD pv (Same.refl _) (mapF_put e) (Nat.lt_of_le_of_lt mapF_len (by omega))
  rintro H3 ⟨s3, hD⟩
  rw [mapF_all ul] at hD
  refine ⟨D, _, rfl, .inr (SqL.of hD), ?_⟩
  refine ⟨l, _, rfl, TxS.same hl2 s3, ?_⟩
  refine ⟨k, _, rfl, TxS.same hk2 s3, ?_⟩
  have lN : (planNames ps lk kp).length = ps.length + lk.length + kp.length := by
    unfold planNames
    rw [List.length_append, List.length_append, List.length_map]
  have eN : ps.map (fun p => V.str p.2) ++ (lk.map V.str ++ (kp.map V.str ++ [])) = (planNames ps lk kp).map V.str := by
    unfold planNames
    rw [List.map_append, List.map_append, List.map_map, List.append_nil, List.append_assoc]
    rfl
  refine ⟨by rw [eN, List.length_map]; exact line_of (by omega), fun p np => ?_⟩
  have s4 := s3.trans (same_new (o := .tup (ps.map (fun p => V.str p.2) ++ (lk.map V.str ++ (kp.map V.str ++ [])))) np)
  have hp4 : (upd H3 p (.tup (ps.map (fun p => V.str p.2) ++ (lk.map V.str ++ (kp.map V.str ++ []))))) p = some (.tup (ps.map (fun p => V.str p.2) ++ (lk.map V.str ++ (kp.map V.str ++ [])))) := upd_same
  generalize upd H3 p (.tup (ps.map (fun p => V.str p.2) ++ (lk.map V.str ++ (kp.map V.str ++ [])))) = H4 at s4 hp4 ⊢
  rw [eN] at hp4
  refine ⟨p, rfl, ⟨_, SqT.of hp4⟩, ?_⟩
  refine for_tup (K := K) (a := p) (xs := (planNames ps lk kp).map V.str) (fun i σ' H' => (∃ y, σ' = [some (.ref x), some (.ref t), some (.ref l), some (.ref k), y, none, none]) ∧ Same H4 H' ∧ ∀ y ∈ (planNames ps lk kp).take i, isName y = true) ⟨⟨_, rfl⟩, Same.refl _, fun _ h => nomatch h⟩ (fun i σ' H' _ h => SqT.of (h.2.1 _ _ hp4)) ?_ ?_
  · rintro i v σ' H5 hi ⟨⟨y, rfl⟩, sm, hn⟩
    rw [List.getElem?_map] at hi
    obtain ⟨z, ez, rfl⟩ := Option.map_eq_some_iff.mp hi
    obtain ⟨z1, z2⟩ := hz z (List.mem_of_getElem? ez)
    refine ⟨z, rfl, z1, z2, ?_⟩
    by_cases hnz : isName z = true
    · rw [if_pos hnz]
      refine fun H6 s6 => ⟨⟨_, rfl⟩, sm.trans s6, fun y hy => ?_⟩
      rw [take_snoc ez] at hy
      rcases List.mem_append.mp hy with h | h
      · exact hn y h
      · rw [List.mem_singleton.mp h]
        exact hnz
    · rw [if_neg hnz]
      unfold PlanOut at q
      rw [bad_at hn ez hnz] at q
      refine fun B d H6 hB s6 nd hd => q B d H6 hB (b2.trans (Bt.same ((s4.trans sm).trans s6))) ?_ hd
      refine Bt.free (b2.trans (Bt.same (s4.trans sm))) (fun e => ?_) nd
      rw [e, (s4.trans sm) _ _ hx2] at nd
      cases nd
  rintro σ' H5 ⟨⟨y, rfl⟩, sm, hn⟩
  rw [List.length_map, List.take_length] at hn
  have s5 := s4.trans sm
  clear s4 sm s3 hD hp4 np
  unfold PlanOut at q
  rw [bad_none hn] at q
  have raise : ∀ H6, Same H2 H6 → planFits ps lk kp = false → ∀ (B : Addr) (H' : Hp), PySem.W.nsIn K mainGlobals "BadPlan" = some (some (.ref B)) → Same H6 H' → E (.ref B) none H' := fun H6 s6 e B H' hB s7 => by
    rw [e] at q
    exact q B H' hB (b2.trans (Bt.same (s6.trans s7)))
  refine ⟨x, a_Plan, dx, _, _, rfl, s5 _ _ hx2, T.cl_Plan, T.na_Plan_steps, rfl, w, ps, rfl, st2.same s5, few, fun H6 s6 => ?_⟩
  have s6 := s5.trans s6
  refine ite2 (fun c => ?_) (fun c => ?_)
  · have c : stepsFit ps = false := by simpa using c
    exact raise H6 s6 (by unfold planFits; rw [c]; rfl) _ _ T.n_BadPlan (Same.refl _)
  have f1 : stepsFit ps = true := by simpa using c
  refine ⟨x, a_Plan, dx, _, _, rfl, s6 _ _ hx2, T.cl_Plan, T.na_Plan_steps, rfl, w, l, ps, lk, rfl, st2.same s6, TxS.same hl2 s6, few, fl, fun H7 s7 => ?_⟩
  have s7 := s6.trans s7
  refine ite2 (fun c => ?_) (fun c => ?_)
  · have c : keysFit ps lk = false := by simpa using c
    exact raise H7 s7 (by unfold planFits; rw [c, Bool.and_false, Bool.false_and]) _ _ T.n_BadPlan (Same.refl _)
  have f2 : keysFit ps lk = true := by simpa using c
  refine ⟨x, a_Plan, dx, _, _, rfl, s7 _ _ hx2, T.cl_Plan, T.na_Plan_steps, rfl, w, k, ps, kp, rfl, st2.same s7, TxS.same hk2 s7, few, fk, fun H8 s8 => ?_⟩
  have s8 := s7.trans s8
  refine ite2 (fun c => ?_) (fun c => ?_)
  · have c : keysFit ps kp = false := by simpa using c
    exact raise H8 s8 (by unfold planFits; rw [c, Bool.and_false]) _ _ T.n_BadPlan (Same.refl _)
  have f3 : keysFit ps kp = true := by simpa using c
  have good : planFits ps lk kp = true := by
    unfold planFits
    rw [f1, f2, f3]
    rfl
  rw [good] at q
  have q : ∀ (H' : Hp), Bt x H H' → PlAt K H' x ps (among ps lk) (among ps kp) → (∃ fs, H' x = some (.ins a_Plan dx fs)) → Q .non H' := q
  clear raise hn s5 s6 s7
  -- what is locked
  refine ⟨x, a_Plan, dx, _, _, rfl, s8 _ _ hx2, T.cl_Plan, T.na_Plan_steps, rfl, w, ps, rfl, st2.same s8, few, fun H5 r5 s5 nr5 hr5 => ?_⟩
  refine ⟨r5, rfl, ⟨_, SqT.of hr5⟩, fun D5 nD5 => ?_⟩
  refine lc_it (walk_tup (xs := (looked ps).map V.str)) (PvP H5 D5 (keepF (looked ps) (fun z => decide (z ∈ lk)) V.str)) (pvp_start nD5 rfl) (fun _ _ _ h => SqT.of (h.1 _ _ hr5)) ?_ ?_
  · rintro i v H6 H7 hi pv ⟨rfl, hv⟩
    rw [List.getElem?_map] at hv
    obtain ⟨z, e, rfl⟩ := Option.map_eq_some_iff.mp hv
    refine ⟨rfl, ?_⟩
    refine ⟨_, (TxS.same hl2 (s8.trans (s5.trans pv.1))).symm, rfl, flat_strs, ?_⟩
    rw [List.length_map] at hi
    refine ite2 (fun c => ?_) (fun c => ?_)
    · exact pvp_put nD5 pv (Same.refl _) (keepF_put e (inV_str.symm.trans c)) (Nat.lt_of_le_of_lt keepF_len (Nat.lt_of_le_of_lt looked_len (by omega)))
    · exact pvp_skip pv (Same.refl _) (keepF_skip e fun h => c (inV_str.trans h))
  rintro H6 ⟨s6, hD6⟩
  rw [keepF_all (by rw [List.length_map])] at hD6
  refine ⟨D5, _, rfl, .inl ⟨SqL.of hD6, fun w2 nw2 => ?_⟩⟩
  have s7 : Same H2 (upd H6 w2 (.tup (List.map V.str (List.filter (fun z => decide (z ∈ lk)) (looked ps))))) := (s8.trans (s5.trans s6)).trans (same_new nw2)
  have hx7 := s7 _ _ hx2
  refine ⟨x, a_Plan, dx, _, rfl, hx7, T.cl_Plan, T.na_Plan_locked, (by show 1 < 1000; decide), ?_⟩
  have st7 := st2.same s7
  have hk7 := TxS.same hk2 s7
  have hw7 : TxT K (upd H6 w2 (.tup (List.map V.str (List.filter (fun z => decide (z ∈ lk)) (looked ps))))) w2 (among ps lk) := SqT.of upd_same
  generalize upd H6 w2 (.tup (List.map V.str (List.filter (fun z => decide (z ∈ lk)) (looked ps)))) = H7 at s7 hx7 st7 hk7 hw7 ⊢
  have b9 : Bt x H (upd H7 x (.ins a_Plan dx [("steps", .ref w), ("locked", .ref w2)])) := (b2.trans (Bt.same s7)).trans Bt.st
  have hx9 : (upd H7 x (.ins a_Plan dx [("steps", .ref w), ("locked", .ref w2)])) x = some (.ins a_Plan dx [("steps", .ref w), ("locked", .ref w2)]) := upd_same
  have st9 : StT K (upd H7 x (.ins a_Plan dx [("steps", .ref w), ("locked", .ref w2)])) w ps := st7.bt (NT.ins hx7) Bt.st
  have hk9 : TxS K (upd H7 x (.ins a_Plan dx [("steps", .ref w), ("locked", .ref w2)])) k kp := txS_bt hk7 hx7 Bt.st
  have hw9 : TxT K (upd H7 x (.ins a_Plan dx [("steps", .ref w), ("locked", .ref w2)])) w2 (among ps lk) := SqT.bt hw7 (NT.ins hx7) Bt.st
  show (fun H9 => _) (upd H7 x (.ins a_Plan dx [("steps", .ref w), ("locked", .ref w2)]))
  generalize upd H7 x (.ins a_Plan dx [("steps", .ref w), ("locked", .ref w2)]) = H9 at b9 hx9 st9 hk9 hw9 ⊢
  clear st7 hk7 hw7 hx7 s7 s8 nw2 hD6 s6 s5 nD5 hr5 nr5
  -- what is kept
  refine ⟨x, a_Plan, dx, _, _, rfl, hx9, T.cl_Plan, T.na_Plan_steps, rfl, w, ps, rfl, st9, few, fun H5 r5 s5 nr5 hr5 => ?_⟩
  refine ⟨r5, rfl, ⟨_, SqT.of hr5⟩, fun D5 nD5 => ?_⟩
  refine lc_it (walk_tup (xs := (looked ps).map V.str)) (PvP H5 D5 (keepF (looked ps) (fun z => decide (z ∈ kp)) V.str)) (pvp_start nD5 rfl) (fun _ _ _ h => SqT.of (h.1 _ _ hr5)) ?_ ?_
  · rintro i v H6 H7 hi pv ⟨rfl, hv⟩
    rw [List.getElem?_map] at hv
    obtain ⟨z, e, rfl⟩ := Option.map_eq_some_iff.mp hv
    refine ⟨rfl, ?_⟩
    refine ⟨_, (TxS.same hk9 (s5.trans pv.1)).symm, rfl, flat_strs, ?_⟩
    rw [List.length_map] at hi
    refine ite2 (fun c => ?_) (fun c => ?_)
    · exact pvp_put nD5 pv (Same.refl _) (keepF_put e (inV_str.symm.trans c)) (Nat.lt_of_le_of_lt keepF_len (Nat.lt_of_le_of_lt looked_len (by omega)))
    · exact pvp_skip pv (Same.refl _) (keepF_skip e fun h => c (inV_str.trans h))
  rintro H6 ⟨s6, hD6⟩
  rw [keepF_all (by rw [List.length_map])] at hD6
  refine ⟨D5, _, rfl, .inl ⟨SqL.of hD6, fun w3 nw3 => ?_⟩⟩
  have s7 : Same H9 (upd H6 w3 (.tup (List.map V.str (List.filter (fun z => decide (z ∈ kp)) (looked ps))))) := (s5.trans s6).trans (same_new nw3)
  have hx7 := s7 _ _ hx9
  refine ⟨x, a_Plan, dx, _, rfl, hx7, T.cl_Plan, T.na_Plan_kept, (by show 2 < 1000; decide), ?_⟩
  have st7 := st9.same s7
  have hl7 : TxT K (upd H6 w3 (.tup (List.map V.str (List.filter (fun z => decide (z ∈ kp)) (looked ps))))) w2 (among ps lk) := SqT.same hw9 s7
  have hw7 : TxT K (upd H6 w3 (.tup (List.map V.str (List.filter (fun z => decide (z ∈ kp)) (looked ps))))) w3 (among ps kp) := SqT.of upd_same
  generalize upd H6 w3 (.tup (List.map V.str (List.filter (fun z => decide (z ∈ kp)) (looked ps)))) = H7 at s7 hx7 st7 hl7 hw7 ⊢
  exact q _ ((b9.trans (Bt.same s7)).trans Bt.st) ⟨a_Plan, dx, w, w2, w3, T.n_Plan, upd_same, st7.bt (NT.ins hx7) Bt.st, SqT.bt hl7 (NT.ins hx7) Bt.st, SqT.bt hw7 (NT.ins hx7) Bt.st⟩ ⟨_, upd_same⟩
/-- what making a plan at x comes to -/
def PlOut (K : PySem.W.Frag) (H : Hp) (x : Addr) (ps : List Stp) (lk kp : List Str) (Q : VK) (E : XK) : Prop := match bad1 (planNames ps lk kp) with
  | some z => BadN K H z E
  | none => if planFits ps lk kp = true then ∀ (H' : Hp), Same H H' → PlAt K H' x ps (among ps lk) (among ps kp) → Q .non H' else BadP K H E
theorem made_plan {K : PySem.W.Frag} {H : Hp} {C t l k x dx : Addr} {ps : List Stp} {lk kp : List Str} {Q : VK} {E : XK} (nx : H x = none) (nd : H dx = none) (ne : dx ≠ x) (hC : PySem.W.nsIn K mainGlobals "Plan" = some (some (.ref C))) (ht : StL K H t ps) (hl : TxS K H l lk) (hk : TxS K H k kp)
    (few : ps.length < 64) (fl : lk.length < 64) (fk : kp.length < 64) (hz : ∀ z ∈ planNames ps lk kp, z.length ≤ 1000 ∧ Asc z) (q : PlOut K H x ps lk kp Q E) :
    sp_Plan___init__ K [.ref x, .ref t, .ref l, .ref k] (upd (upd H dx (.own x)) x (.ins C dx [])) Q E := by
  have sm : Same H (upd (upd H dx (.own x)) x (.ins C dx [])) := fun b o hb => by
    rw [upd_ne (ne_of_none hb nx), upd_ne (ne_of_none hb nd)]
    exact hb
  have after : ∀ {H' : Hp}, Bt x (upd (upd H dx (.own x)) x (.ins C dx [])) H' → Same H H' := fun {H'} k b o hb => k b o (ne_of_none hb nx) (sm _ _ hb)
  obtain ⟨vs, h1, h2⟩ := ht
  refine ⟨x, t, l, k, C, dx, ps, lk, kp, rfl, hC, upd_same, ⟨vs, sm.seq h1, pairs_same h2 sm⟩, TxS.same hl sm, TxS.same hk sm, few, fl, fk, hz, ?_⟩
  unfold PlOut at q
  unfold PlanOut
  cases hb : bad1 (planNames ps lk kp) with
  | some z =>
    rw [hb] at q
    exact fun B d H' hB k nd' hd => q B d H' hB (after k) (free_new (free_new nd')) hd
  | none =>
    rw [hb] at q
    by_cases g : planFits ps lk kp = true
    · rw [if_pos g] at q
      show if planFits ps lk kp = true then _ else _
      rw [if_pos g]
      exact fun H' k hp _ => q H' (after k) hp
    · rw [if_neg g] at q
      show if planFits ps lk kp = true then _ else _
      rw [if_neg g]
      exact fun B H' hB k => q B H' hB (after k)
end
section
variable {P : Program} {w : World} {K : PySem.W.Frag} {mg : Str → Option Value} {base : Heap}
variable {t_DIGITS t_LETTERS t_LONGEST_NAME : Tok} {a_DEEDS a_MARKS a_RESERVED a_SIGNS a_BadName a_BadPlan a_BadText a_ElseputError a_Plan a_Reader : Addr}
def sp__law_mixed (K : PySem.W.Frag) : Sp := fun vs H Q _ => ∃ (st scr p : Addr) (xs : List V), vs = [.ref st, .ref p] ∧ DrAt H st scr ∧ H p = some (.lst xs) ∧ p ≠ st ∧ xs.length ≤ 1000 ∧
  ∀ (H' : Hp) (r : Addr) (ys : List V), Bt st H H' → DrAt H' st scr → H r = none → H' r = some (.lst ys) → ys.Perm xs → Q (.ref r) H'
theorem len__law_mixed {vs : List V} {H : Hp} {Q : VK} {E : XK} (h : sp__law_mixed K vs H Q E) : vs.length = 2 := by
  obtain ⟨_, _, _, _, rfl, _⟩ := h
  rfl
theorem ok__law_mixed {f : Addr} {fd : FuncData} {f__law_draw : Addr} {fd__law_draw : FuncData} (F : Fun K "_law_mixed" "_law_mixed" s__law_mixed f fd) (T : Gs K mg t_DIGITS t_LETTERS t_LONGEST_NAME a_DEEDS a_MARKS a_RESERVED a_SIGNS a_BadName a_BadPlan a_BadText a_ElseputError a_Plan a_Reader) (c__law_draw : Cal P w K mg base CX0 1 "_law_draw" f__law_draw fd__law_draw ["_law_state_here", "_law_many"] (sp__law_draw K)) : FnOk P w K mg base CX0 2 f fd ["_law_state_here", "_law_row"] (sp__law_mixed K) := by
  refine F.ok sc__law_mixed (fun vs H Q E h => len__law_mixed h) (fun cdv A outer s H vs Q E hr h => ?_)
  obtain ⟨st, scr, p, xs, rfl, hd, hp, hne, hl, q⟩ := h
  refine ⟨_, (pss_cons (ps_set (i := 2) sc__law_mixed.nd rfl (.inl rfl) (pe_callTy (listK K) (by rfl) T.z_list (by decide +kernel) (pa_cons (v_ 1) pa_nil))) (pss_cons (ps_set (i := 3) sc__law_mixed.nd rfl (.inl rfl) (pe_lst pa_nil)) (pss_cons (ps_for PassesOwn.never rfl (pi_range1 rfl T.z_range (pa_cons (pe_callB (lenK K) (by rfl) T.z_len PySem.boot_len (pa_cons (v_ 1) pa_nil)) pa_nil)) (pg_name (i := 4) sc__law_mixed.nd rfl (.inl rfl)) (pss_cons (ps_set (i := 5) sc__law_mixed.nd rfl (.inl rfl) (pe_call c__law_draw.G (hr.mono (by first | decide | omega)) rfl c__law_draw.m c__law_draw.kp c__law_draw.b .nil pass0 (pa_cons (v_ 0) (pa_cons (pe_callB (lenK K) (by rfl) T.z_len PySem.boot_len (pa_cons (v_ 2) pa_nil)) pa_nil)))) (pss_cons (ps_expr (pe_bm PySem.F.plainAttrs_list PySem.F.slot_list_append PySem.F.type_list_append mt_append (v_ 3) (pa_cons (e_x K (v_ 2) (v_ 5)) pa_nil))) (pss_one (ps_set (i := 2) sc__law_mixed.nd rfl (.inl rfl) (pe_op (addK K) (pe_slice (slK K) (v_ 2) po_none (po_some (v_ 5))) (pe_slice (slK K) (v_ 2) (po_some (pe_op (addK K) (v_ 5) pe_int)) po_none))))))) (pss_one (ps_ret (v_ 3)))))), ?_⟩
  refine ⟨_, _, rfl, .inl (SqL.of hp), fun t nt => ?_⟩
  refine ⟨Nat.zero_le _, fun r nr => ?_⟩
  have tr := new_ne nr
  have hr0 := free_new nr
  have hd0 := (hd.new (same_new (o := .lst xs) nt)).new (same_new (o := .lst []) nr)
  have ts : t ≠ st := hd.ne_new nt
  have rs : r ≠ st := hd.ne_new hr0
  have rc : r ≠ scr := hd.ne_scr hr0
  refine .inl ⟨_, .inl (SqL.of (by rw [upd_ne (ne_of_none hp hr0), upd_ne (ne_of_none hp nt)]; exact hp)), xs.length, rfl, by omega, by omega, ?_⟩
  refine for_range (lo := 0) (n := xs.length) (fun i σ' H' => ∃ (t : Addr) (rest ys : List V) (y z : Option V), σ' = [some (.ref st), some (.ref p), some (.ref t), some (.ref r), y, z] ∧ Bt st H H' ∧ DrAt H' st scr ∧ t ≠ st ∧ t ≠ r ∧ H' t = some (.lst rest) ∧ H' r = some (.lst ys) ∧ rest.length + i = xs.length ∧ ys.length = i ∧ (rest ++ ys).Perm xs) ?_ ?_ ?_
  · exact ⟨t, xs, [], _, _, rfl, .same ((same_new nt).trans (same_new nr)), hd0, ts, tr.symm, by rw [upd_ne tr.symm, upd_same], upd_same, rfl, rfl, by rw [List.append_nil]⟩
  · rintro i σ' H' hi ⟨t, rest, ys, y, z, rfl, bt, hd, ts, tr, ht, hr, l1, l2, m1⟩
    refine .inl ⟨_, .inl (SqL.of ht), st, scr, _, rfl, hd, by omega, many_small (by omega) (by omega), fun a l a0 a1 hd' => ?_⟩
    have ht1 : upd H' st (.lst l) t = some (.lst rest) := by rw [upd_ne ts]; exact ht
    have hr1 : upd H' st (.lst l) r = some (.lst ys) := by rw [upd_ne rs]; exact hr
    obtain ⟨x, hx, hm⟩ := at_list a0 a1
    refine ⟨.inl ⟨rfl, _, SqL.of hr1⟩, _, .inl (SqL.of ht1), x, hx, r, ys, x, rfl, rfl, hr1, line_lt (by omega), ?_⟩
    have hd2 := hd'.at (o := .lst (ys ++ [x])) rs rc
    have ht2 : upd (upd H' st (.lst l)) r (.lst (ys ++ [x])) t = some (.lst rest) := by rw [upd_ne tr]; exact ht1
    refine ⟨a, rfl, .inl ⟨rest, SqL.of ht2, fun u nu => ?_⟩⟩
    rw [cutV_take _ a0]
    have ht3 := same_new (o := .lst (rest.take a.toNat)) nu _ _ ht2
    refine ⟨a + 1, rfl, .inl ⟨rest, SqL.of ht3, fun v nv => ?_⟩⟩
    rw [cutV_drop _ (by omega)]
    have hu := same_new (o := .lst (rest.drop (a + 1).toNat)) nv _ _ (upd_same (H := upd (upd H' st (.lst l)) r (.lst (ys ++ [x]))) (a := u) (o := .lst (rest.take a.toNat)))
    refine .inl ⟨_, _, hu, upd_same, line_of (by rw [List.length_take, List.length_drop]; omega), fun k nk => ?_⟩
    have sm := ((same_new (o := .lst (rest.take a.toNat)) nu).trans (same_new (o := .lst (rest.drop (a + 1).toNat)) nv)).trans (same_new (o := .lst (rest.take a.toNat ++ rest.drop (a + 1).toNat)) nk)
    have hd3 := hd2.new sm
    have kn := free_new (free_new nk)
    refine ⟨k, _, ys ++ [x], _, _, rfl, ?_, hd3, hd2.ne_new kn, (ne_of_none upd_same kn).symm, upd_same, sm _ _ upd_same, ?_, by rw [List.length_append, l2]; rfl, ?_⟩
    · intro b o nb hb
      refine sm _ _ ?_
      have := bt b o nb hb
      rw [upd_ne (ne_of_none hb hr0), upd_ne nb]
      exact this
    · rw [List.length_append, List.length_take, List.length_drop]
      omega
    · have hx' : rest[a.toNat]? = some x := by
        obtain ⟨x', e1, e2⟩ : ∃ x', rest[a.toNat]? = some x' ∧ atI rest a = some x' := by
          have hlt : a.toNat < rest.length := by omega
          refine ⟨_, List.getElem?_eq_getElem hlt, ?_⟩
          have := atI_nat (List.getElem?_eq_getElem hlt)
          rwa [show ((a.toNat : Nat) : Int) = a by omega] at this
        rw [hx] at e2
        cases e2
        exact e1
      have hr' : rest = rest.take a.toNat ++ x :: rest.drop (a + 1).toNat := by
        obtain ⟨h1, h2⟩ := List.getElem?_eq_some_iff.mp hx'
        rw [show (a + 1).toNat = a.toNat + 1 by omega, ← h2, ← List.drop_eq_getElem_cons h1, List.take_append_drop]
      refine List.Perm.trans ?_ m1
      rw [← List.append_assoc]
      have p1 : (rest.take a.toNat ++ rest.drop (a + 1).toNat ++ ys ++ [x]).Perm (rest.take a.toNat ++ (x :: rest.drop (a + 1).toNat) ++ ys) := by
        refine (List.perm_append_comm (l₁ := rest.take a.toNat ++ rest.drop (a + 1).toNat ++ ys) (l₂ := [x])).trans ?_
        rw [List.append_assoc, List.append_assoc]
        exact (List.perm_middle (a := x) (l₁ := rest.take a.toNat) (l₂ := rest.drop (a + 1).toNat ++ ys)).symm
      rw [← hr'] at p1
      exact p1
  · rintro σ' H' ⟨t, rest, ys, y, z, rfl, bt, hd, ts, tr, ht, hr, l1, l2, m1⟩
    refine q H' r ys bt hd hr0 hr ?_
    have : rest = [] := List.eq_nil_of_length_eq_zero (by omega)
    rw [this] at m1
    exact m1
/-! ### names -/
/-- small letters, of which the one at p is c -/
def Lt (z : Str) (p c : Nat) : Prop := (∀ d ∈ z.cps.toList, d ∈ letters.cps.toList) ∧ z.cps.toList[p]? = some c ∧ z.length ≤ 12
theorem Lt.name {z : Str} {p c : Nat} (h : Lt z p c) (hr : inV (.str z) resv = false) : isName z = true := by
  unfold isName
  have h0 : ¬ ((z.length : Int) < 1) := by
    have := (List.getElem?_eq_some_iff.mp h.2.1).1
    rw [len_cps] at this
    omega
  have h1 : ¬ ((12 : Int) < z.length) := by have := h.2.2; omega
  rw [decide_eq_false h0, decide_eq_false h1, hr]
  show (z.cps.toList.all fun c => decide (c ∈ letters.cps.toList)) = true
  exact List.all_eq_true.mpr fun d hd => decide_eq_true (h.1 d hd)
theorem resv_strs : resv = (["always", "never", "and", "or", "not", "when", "add", "set", "change", "tell", "refuse", "take", "look", "free", "lock", "keep", "keys", "fields"] : List Str).map V.str := rfl
theorem resv_z {z : Str} (h : inV (.str z) resv = true) : inV (.str (z ++ "z")) resv = false ∧ z.length ≤ 7 := by
  rw [resv_strs, inV_str, decide_eq_true_iff] at h
  have all : (["always", "never", "and", "or", "not", "when", "add", "set", "change", "tell", "refuse", "take", "look", "free", "lock", "keep", "keys", "fields"] : List Str).all (fun z => !inV (.str (z ++ "z")) resv && decide (z.length ≤ 7)) = true := by decide +kernel
  have := List.all_eq_true.mp all z h
  rw [Bool.and_eq_true, Bool.not_eq_true', decide_eq_true_iff] at this
  exact this
theorem cutS_take (z : Str) {k : Nat} : (cutS z none (some (k : Int))).cps.toList = z.cps.toList.take k := by
  unfold cutS
  rw [List.toList_toArray, HT.sIx_nat, HT.sIx_none, List.drop_zero, Nat.sub_zero, List.take_eq_take_iff, len_cps]
  omega
theorem cutS_drop (z : Str) {k : Nat} : (cutS z (some (k : Int)) none).cps.toList = z.cps.toList.drop k := by
  unfold cutS
  rw [List.toList_toArray, HT.sIx_nat, HT.sIx_none]
  by_cases h : k ≤ z.length
  · rw [Nat.min_eq_left h, List.take_of_length_le (by rw [List.length_drop, len_cps]; omega)]
  · rw [Nat.min_eq_right (by omega), List.drop_of_length_le (by rw [len_cps]; omega), List.drop_of_length_le (by rw [len_cps]; omega), List.take_nil]
theorem letter_at {i : Int} (h0 : 0 ≤ i) (h1 : i < 26) : atI letters.cps.toList i = some (97 + i.toNat) := by
  have all : ∀ j : Fin 26, letters.cps.toList[j.val]? = some (97 + j.val) := by decide +kernel
  have := all ⟨i.toNat, by omega⟩
  have hq := atI_nat this
  rwa [show ((i.toNat : Nat) : Int) = i by omega] at hq
theorem letter_mem {i : Nat} (h1 : i < 26) : (97 + i) ∈ letters.cps.toList := by
  have all : ∀ j : Fin 26, (97 + j.val) ∈ letters.cps.toList := by decide +kernel
  exact all ⟨i, h1⟩
theorem one_len (c : Nat) : (⟨#[c]⟩ : Str).length = 1 := rfl
theorem one_cps (c : Nat) : (⟨#[c]⟩ : Str).cps.toList = [c] := rfl
theorem Lt.z {z : Str} {p c : Nat} (h : Lt z p c) (hl : z.length ≤ 7) : Lt (z ++ "z") p c := by
  refine ⟨fun d hd => ?_, ?_, ?_⟩
  · rw [cps_add] at hd
    rcases List.mem_append.mp hd with e | e
    · exact h.1 d e
    · have : d = 122 := by simpa using (show d ∈ [122] from e)
      rw [this]
      decide +kernel
  · rw [cps_add, List.getElem?_append_left (List.getElem?_eq_some_iff.mp h.2.1).1]
    exact h.2.1
  · rw [len_add]
    show z.length + 1 ≤ 12
    omega
def sp__law_names (K : PySem.W.Frag) : Sp := fun vs H Q _ => ∃ (st scr : Addr) (n : Nat), vs = [.ref st, .int n] ∧ DrAt H st scr ∧ n ≤ 26 ∧
  ∀ (H' : Hp) (p : Addr) (zs : List Str), Bt st H H' → DrAt H' st scr → H p = none → H' p = some (.lst (zs.map V.str)) → zs.length = n → (∀ z ∈ zs, isName z = true ∧ z.length ≤ 12) → zs.Nodup → Q (.ref p) H'
theorem len__law_names {vs : List V} {H : Hp} {Q : VK} {E : XK} (h : sp__law_names K vs H Q E) : vs.length = 2 := by
  obtain ⟨_, _, _, rfl, _⟩ := h
  rfl
theorem ok__law_names {f : Addr} {fd : FuncData} {f__law_draw : Addr} {fd__law_draw : FuncData} (F : Fun K "_law_names" "_law_names" s__law_names f fd) (T : Gs K mg t_DIGITS t_LETTERS t_LONGEST_NAME a_DEEDS a_MARKS a_RESERVED a_SIGNS a_BadName a_BadPlan a_BadText a_ElseputError a_Plan a_Reader) (c__law_draw : Cal P w K mg base CX0 1 "_law_draw" f__law_draw fd__law_draw ["_law_state_here", "_law_many"] (sp__law_draw K)) : FnOk P w K mg base CX0 2 f fd ["_law_state_here", "_law_many"] (sp__law_names K) := by
  refine F.ok sc__law_names (fun vs H Q E h => len__law_names h) (fun cdv A outer s H vs Q E hr h => ?_)
  obtain ⟨st, scr, n, rfl, hd, hn, q⟩ := h
  refine ⟨_, (pss_cons (ps_set (i := 2) sc__law_names.nd rfl (.inl rfl) pe_str) (pss_cons (ps_set (i := 3) sc__law_names.nd rfl (.inl rfl) (pe_call c__law_draw.G (hr.mono (by first | decide | omega)) rfl c__law_draw.m c__law_draw.kp c__law_draw.b .nil pass0 (pa_cons (v_ 0) (pa_cons pe_int pa_nil)))) (pss_cons (ps_set (i := 4) sc__law_names.nd rfl (.inl rfl) (pe_call c__law_draw.G (hr.mono (by first | decide | omega)) rfl c__law_draw.m c__law_draw.kp c__law_draw.b .nil pass0 (pa_cons (v_ 0) (pa_cons pe_int pa_nil)))) (pss_cons (ps_set (i := 5) sc__law_names.nd rfl (.inl rfl) (pe_call c__law_draw.G (hr.mono (by first | decide | omega)) rfl c__law_draw.m c__law_draw.kp c__law_draw.b .nil pass0 (pa_cons (v_ 0) (pa_cons pe_int pa_nil)))) (pss_cons (ps_set (i := 6) sc__law_names.nd rfl (.inl rfl) (pe_call c__law_draw.G (hr.mono (by first | decide | omega)) rfl c__law_draw.m c__law_draw.kp c__law_draw.b .nil pass0 (pa_cons (v_ 0) (pa_cons pe_int pa_nil)))) (pss_cons (ps_set (i := 7) sc__law_names.nd rfl (.inl rfl) pe_str) (pss_cons (ps_for PassesOwn.never rfl (pi_range1 rfl T.z_range (pa_cons pe_int pa_nil)) (pg_name (i := 8) sc__law_names.nd rfl (.inl rfl)) (pss_cons (ps_set (i := 7) sc__law_names.nd rfl (.inl rfl) (pe_op (addK K) (v_ 7) (e_x K (v_ 2) (pe_op op_modM (pe_callTy call_intM (by rfl) T.z_int (by decide +kernel) (pa_cons (v_ 5) pa_nil)) pe_int)))) (pss_one (ps_set (i := 5) sc__law_names.nd rfl (.inl rfl) (pe_op op_divM (pe_callTy call_intM (by rfl) T.z_int (by decide +kernel) (pa_cons (v_ 5) pa_nil)) pe_int))))) (pss_cons (ps_set (i := 9) sc__law_names.nd rfl (.inl rfl) (pe_lst (pa_cons pe_str (pa_cons pe_str (pa_cons pe_str (pa_cons pe_str (pa_cons pe_str (pa_cons pe_str (pa_cons pe_str (pa_cons pe_str (pa_cons pe_str (pa_cons pe_str (pa_cons pe_str (pa_cons pe_str pa_nil)))))))))))))) (pss_cons (ps_set (i := 9) sc__law_names.nd rfl (.inl rfl) (pe_op (addK K) (v_ 9) (pe_lst (pa_cons pe_str (pa_cons pe_str (pa_cons pe_str (pa_cons pe_str (pa_cons pe_str (pa_cons pe_str pa_nil))))))))) (pss_cons (ps_set (i := 10) sc__law_names.nd rfl (.inl rfl) (pe_lst pa_nil)) (pss_cons (ps_for PassesOwn.never rfl (pi_range1 rfl T.z_range (pa_cons (v_ 1) pa_nil)) (pg_name (i := 8) sc__law_names.nd rfl (.inl rfl)) (pss_cons (ps_set (i := 11) sc__law_names.nd rfl (.inl rfl) (e_x K (v_ 2) (pe_op op_modM (pe_callTy call_intM (by rfl) T.z_int (by decide +kernel) (pa_cons (pe_op (addK K) (v_ 4) (pe_op op_mulSM pe_int (v_ 8))) pa_nil)) pe_int))) (Evl.pss_cut (ps_if (pt_c (eqK K hr.units) (v_ 3) pe_int) (pss_one (ps_set (i := 11) sc__law_names.nd rfl (.inl rfl) (pe_op (addK K) (pe_op (addK K) (pe_slice (slK K) (v_ 7) po_none (po_some (v_ 6))) (v_ 11)) (pe_slice (slK K) (v_ 7) (po_some (v_ 6)) po_none)))) pss_nil) (Evl.pss_cut (ps_if (pt_c (eqK K hr.units) (v_ 3) pe_int) (pss_one (ps_set (i := 11) sc__law_names.nd rfl (.inl rfl) (pe_op (addK K) (v_ 11) (pe_slice (slK K) (v_ 7) po_none (po_some (pe_op op_modM (pe_callTy call_intM (by rfl) T.z_int (by decide +kernel) (pa_cons (pe_op (addK K) (pe_op op_mulSM pe_int (v_ 8)) (v_ 6)) pa_nil)) pe_int)))))) pss_nil) (Evl.pss_cut (ps_if (pt_c (eqK K hr.units) (v_ 3) pe_int) (pss_one (ps_set (i := 11) sc__law_names.nd rfl (.inl rfl) (pe_op (addK K) (pe_op (addK K) (pe_slice (slK K) (v_ 7) po_none (po_some pe_int)) (v_ 11)) (v_ 7)))) pss_nil) (Evl.pss_cut (ps_if (pt_c (inK K) (v_ 11) (v_ 9)) (pss_one (ps_set (i := 11) sc__law_names.nd rfl (.inl rfl) (pe_op (addK K) (v_ 11) pe_str))) pss_nil) (pss_one (ps_expr (pe_bm PySem.F.plainAttrs_list PySem.F.slot_list_append PySem.F.type_list_append mt_append (v_ 10) (pa_cons (v_ 11) pa_nil)))))))))) (pss_one (ps_ret (v_ 10)))))))))))))), ?_⟩
  refine ⟨st, scr, _, rfl, hd, by decide, many_small (by decide) (by decide), fun sty l1 s0 s1 hd1 => ?_⟩
  have b1 : Bt st H (upd H st (.lst l1)) := Bt.st
  generalize upd H st (.lst l1) = H1 at hd1 b1 ⊢
  refine ⟨st, scr, _, rfl, hd1, by decide, many_small (by decide) (by decide), fun sh l2 h0 h1 hd2 => ?_⟩
  have b2 := b1.trans (Bt.st (st := st) (o := .lst l2))
  generalize upd H1 st (.lst l2) = H2 at hd2 b2 ⊢
  refine ⟨st, scr, _, rfl, hd2, by decide, many_small (by decide) (by decide), fun cd l3 c0 c1 hd3 => ?_⟩
  have b3 := b2.trans (Bt.st (st := st) (o := .lst l3))
  generalize upd H2 st (.lst l3) = H3 at hd3 b3 ⊢
  refine ⟨st, scr, _, rfl, hd3, by decide, many_small (by decide) (by decide), fun spt l4 p0 p1 hd4 => ?_⟩
  have b4 := b3.trans (Bt.st (st := st) (o := .lst l4))
  generalize upd H3 st (.lst l4) = H4 at hd4 b4 ⊢
  refine ⟨6, rfl, by decide, by decide, ?_⟩
  refine for_range (lo := 0) (n := 6) (fun i σ' H' => ∃ (z : Str) (code : Int) (y : Option V), σ' = [some (.ref st), some (.int n), some (.str letters), some (.int sty), some (.int sh), some (.int code), some (.int spt), some (.str z), y, none, none, none] ∧ H' = H4 ∧ z.length = i ∧ ∀ d ∈ z.cps.toList, d ∈ letters.cps.toList) ?_ ?_ ?_
  · exact ⟨_, _, _, rfl, rfl, rfl, fun _ h => nomatch h⟩
  · rintro i σ' H' hi ⟨z, code, y, rfl, rfl, hz, ha⟩
    refine ⟨by decide, ?_⟩
    have r0 := Int.emod_nonneg code (by decide : (26 : Int) ≠ 0)
    have r1 := Int.emod_lt_of_pos code (by decide : (0 : Int) < 26)
    refine ⟨line_of (by decide +kernel), _, letter_at r0 r1, line_of (by rw [one_len]; omega), ?_⟩
    refine ⟨.inl ⟨by decide, by decide⟩, ?_⟩
    refine ⟨_, _, _, rfl, rfl, by rw [len_add, one_len, hz], fun d hd => ?_⟩
    rw [cps_add, one_cps] at hd
    rcases List.mem_append.mp hd with h | h
    · exact ha d h
    · rw [List.mem_singleton.mp h]
      exact letter_mem (by omega)
  rintro σ' H' ⟨bs, code, y, rfl, rfl, hz, ha⟩
  have hbl : bs.cps.toList.length = 6 := by rw [len_cps]; exact hz
  refine ⟨(by show 12 ≤ sizeLine; decide), fun o no => ?_⟩
  refine ⟨(by show 6 ≤ sizeLine; decide), fun p np => ?_⟩
  have hpo := new_ne np
  refine .inl ⟨_, _, (by rw [upd_ne hpo.symm, upd_same]), upd_same, (by show 18 ≤ sizeLine; decide), fun rv nrv => ?_⟩
  have sm := ((same_new (o := .lst [.str "always", .str "never", .str "and", .str "or", .str "not", .str "when", .str "add", .str "set", .str "change", .str "tell", .str "refuse", .str "take"]) no).trans (same_new (o := .lst [.str "look", .str "free", .str "lock", .str "keep", .str "keys", .str "fields"]) np)).trans (same_new (o := .lst resv) nrv)
  generalize hH5 : upd _ rv _ = H5
  have hrv : H5 rv = some (.lst resv) := by rw [← hH5]; exact upd_same
  have hd5 : DrAt H5 st scr := by rw [← hH5]; exact hd4.new sm
  have b5 : Bt st H H5 := by rw [← hH5]; exact b4.trans (Bt.same (st := st) sm)
  clear hH5
  refine ⟨Nat.zero_le _, fun L nL => ?_⟩
  generalize hH6 : upd _ L _ = H6
  have hrv2 : H6 rv = some (.lst resv) := by rw [← hH6]; exact same_new nL _ _ hrv
  have hd6 : DrAt H6 st scr := by rw [← hH6]; exact hd5.new (same_new nL)
  have b6 : Bt st H H6 := by rw [← hH6]; exact b5.trans (Bt.same (st := st) (same_new nL))
  have L0 : H L = none := b5.free (hd5.ne_new nL) nL
  have eL : H6 L = some (.lst []) := by rw [← hH6]; exact upd_same
  have Ls : L ≠ st := hd5.ne_new nL
  have Lc : L ≠ scr := hd5.ne_scr nL
  have Lrv : rv ≠ L := ne_of_none hrv nL
  clear hH6
  refine ⟨n, rfl, by omega, by omega, ?_⟩
  obtain ⟨ps, hps⟩ : ∃ ps : Nat, ps = if sty = 1 then spt.toNat else if sty = 3 then 5 else 0 := ⟨_, rfl⟩
  refine for_range (lo := 0) (n := n) (fun i σ' H' => ∃ (y z : Option V) (zs : List Str), σ' = [some (.ref st), some (.int n), some (.str letters), some (.int sty), some (.int sh), some (.int code), some (.int spt), some (.str bs), y, some (.ref rv), some (.ref L), z] ∧ H' = upd H6 L (.lst (zs.map V.str)) ∧ zs.length = i ∧
    ∀ (j : Nat) (z : Str), zs[j]? = some z → Lt z ps (97 + ((sh + 7 * (j : Int)) % 26).toNat) ∧ inV (.str z) resv = false) ?_ ?_ ?_
  · exact ⟨_, _, [], rfl, (upd_id eL).symm, rfl, fun j z h => nomatch h⟩
  · rintro i σ' H' hi ⟨y, z, zs, rfl, rfl, hzl, hzs⟩
    have r0 := Int.emod_nonneg (sh + 7 * (0 + (i : Int))) (by decide : (26 : Int) ≠ 0)
    have r1 := Int.emod_lt_of_pos (sh + 7 * (0 + (i : Int))) (by decide : (0 : Int) < 26)
    refine ⟨.inl (.inl ⟨by decide, by decide⟩), by decide, ?_⟩
    refine ⟨line_of (by decide +kernel), _, letter_at r0 r1, ?_⟩
    have hcm := letter_mem (i := ((sh + 7 * (0 + (i : Int))) % 26).toNat) (by omega)
    rw [Int.zero_add] at hcm r0 r1 ⊢
    generalize hcc : 97 + ((sh + 7 * (i : Int)) % 26).toNat = ch at hcm ⊢
    have hrv3 : (upd H6 L (.lst (zs.map V.str))) rv = some (.lst resv) := by rw [upd_ne Lrv]; exact hrv2
    refine ⟨fun σ' H' => ∃ w : Str, σ' = [some (.ref st), some (.int n), some (.str letters), some (.int sty), some (.int sh), some (.int code), some (.int spt), some (.str bs), some (.int i), some (.ref rv), some (.ref L), some (.str w)] ∧ H' = upd H6 L (.lst (zs.map V.str)) ∧ (sty = 1 → Lt w ps ch) ∧ (sty ≠ 1 → w = ⟨#[ch]⟩), ?_, ?_⟩
    · refine ite2 (fun e => ?_) (fun e => ?_)
      · have e : sty = 1 := of_decide_eq_true e
        have l1 := cutS_length bs none (some spt)
        have l2 := cutS_length bs (some spt) none
        have e1 := cutS_take bs (k := spt.toNat)
        have e2 := cutS_drop bs (k := spt.toNat)
        rw [show ((spt.toNat : Nat) : Int) = spt by omega] at e1 e2
        refine ⟨_, rfl, line_of (by omega), line_of (by rw [one_len]; omega), _, rfl, line_of (by omega), line_of (by rw [len_add, one_len]; omega), ?_⟩
        refine ⟨_, rfl, rfl, fun _ => ⟨fun d hd => ?_, ?_, ?_⟩, fun h => absurd e h⟩
        · rw [cps_add, cps_add, e1, e2, one_cps] at hd
          rcases List.mem_append.mp hd with h | h
          · rcases List.mem_append.mp h with h | h
            · exact ha d (List.mem_of_mem_take h)
            · rw [List.mem_singleton.mp h]; exact hcm
          · exact ha d (List.mem_of_mem_drop h)
        · have hps1 : ps = spt.toNat := by rw [hps, if_pos e]
          rw [cps_add, cps_add, e1, e2, one_cps, hps1, List.append_assoc, List.getElem?_append_right (by rw [List.length_take]; omega), List.length_take, hbl, Nat.min_eq_left (by omega), Nat.sub_self]
          rfl
        · rw [len_add, len_add, ← len_cps (cutS bs none (some spt)), ← len_cps (cutS bs (some spt) none), e1, e2, one_len, List.length_take, List.length_drop]
          omega
      · have e : ¬ sty = 1 := of_decide_eq_false (Bool.eq_false_iff.mpr e)
        exact ⟨_, rfl, rfl, fun h => absurd h e, fun _ => rfl⟩
    rintro σ' H' ⟨w, rfl, rfl, g1, g2⟩
    refine ⟨fun σ' H' => ∃ w : Str, σ' = [some (.ref st), some (.int n), some (.str letters), some (.int sty), some (.int sh), some (.int code), some (.int spt), some (.str bs), some (.int i), some (.ref rv), some (.ref L), some (.str w)] ∧ H' = upd H6 L (.lst (zs.map V.str)) ∧ (sty ≠ 3 → Lt w ps ch) ∧ (sty = 3 → w = ⟨#[ch]⟩), ?_, ?_⟩
    · refine ite2 (fun e => ?_) (fun e => ?_)
      · have e : sty = 2 := of_decide_eq_true e
        have hw := g2 (by omega)
        subst hw
        have r2 := Int.emod_nonneg (3 * (i : Int) + spt) (by decide : (7 : Int) ≠ 0)
        have e1 := cutS_take bs (k := ((3 * (i : Int) + spt) % 7).toNat)
        rw [show ((((3 * (i : Int) + spt) % 7).toNat : Nat) : Int) = (3 * (i : Int) + spt) % 7 by omega] at e1
        have l1 := cutS_length bs none (some ((3 * (i : Int) + spt) % 7))
        refine ⟨.inl (.inl ⟨by decide, by decide⟩), by decide, _, rfl, line_of (by omega), line_of (by rw [one_len]; omega), ?_⟩
        refine ⟨_, rfl, rfl, fun _ => ⟨fun d hd => ?_, ?_, ?_⟩, fun h => absurd h (by omega)⟩
        · rw [cps_add, e1, one_cps] at hd
          rcases List.mem_append.mp hd with h | h
          · rw [List.mem_singleton.mp h]; exact hcm
          · exact ha d (List.mem_of_mem_take h)
        · have hps1 : ps = 0 := by rw [hps, if_neg (by omega), if_neg (by omega)]
          rw [cps_add, one_cps, hps1]
          rfl
        · rw [len_add, one_len]
          omega
      · have e : ¬ sty = 2 := of_decide_eq_false (Bool.eq_false_iff.mpr e)
        refine ⟨w, rfl, rfl, fun h3 => ?_, fun h3 => g2 (by omega)⟩
        by_cases h1 : sty = 1
        · exact g1 h1
        · have hw := g2 h1
          subst hw
          refine ⟨fun d hd => ?_, ?_, by rw [one_len]; decide⟩
          · rw [List.mem_singleton.mp hd]; exact hcm
          · have hps1 : ps = 0 := by rw [hps, if_neg h1, if_neg h3]
            rw [hps1]
            rfl
    rintro σ' H' ⟨w, rfl, rfl, g1, g2⟩
    refine ⟨fun σ' H' => ∃ w : Str, σ' = [some (.ref st), some (.int n), some (.str letters), some (.int sty), some (.int sh), some (.int code), some (.int spt), some (.str bs), some (.int i), some (.ref rv), some (.ref L), some (.str w)] ∧ H' = upd H6 L (.lst (zs.map V.str)) ∧ Lt w ps ch, ?_, ?_⟩
    · refine ite2 (fun e => ?_) (fun e => ?_)
      · have e : sty = 3 := of_decide_eq_true e
        have hw := g2 e
        subst hw
        have e1 := cutS_take bs (k := 5)
        have l1 := cutS_length bs none (some 5)
        refine ⟨_, rfl, line_of (by omega), line_of (by rw [one_len]; omega), line_of (by rw [len_add, one_len]; omega), ?_⟩
        refine ⟨_, rfl, rfl, fun d hd => ?_, ?_, ?_⟩
        · rw [cps_add, cps_add, show (cutS bs none (some (5 : Int))).cps.toList = bs.cps.toList.take 5 from e1, one_cps] at hd
          rcases List.mem_append.mp hd with h | h
          · rcases List.mem_append.mp h with h | h
            · exact ha d (List.mem_of_mem_take h)
            · rw [List.mem_singleton.mp h]; exact hcm
          · exact ha d h
        · have hps1 : ps = 5 := by rw [hps, if_neg (by omega), if_pos e]
          rw [cps_add, cps_add, show (cutS bs none (some (5 : Int))).cps.toList = bs.cps.toList.take 5 from e1, one_cps, hps1, List.append_assoc, List.getElem?_append_right (by rw [List.length_take]; omega), List.length_take, hbl]
          rfl
        · rw [len_add, len_add, ← len_cps (cutS bs none (some (5 : Int))), show (cutS bs none (some (5 : Int))).cps.toList = bs.cps.toList.take 5 from e1, one_len, List.length_take]
          omega
      · have e : ¬ sty = 3 := of_decide_eq_false (Bool.eq_false_iff.mpr e)
        exact ⟨w, rfl, rfl, g1 e⟩
    rintro σ' H' ⟨w, rfl, rfl, g1⟩
    refine ⟨fun σ' H' => ∃ w : Str, σ' = [some (.ref st), some (.int n), some (.str letters), some (.int sty), some (.int sh), some (.int code), some (.int spt), some (.str bs), some (.int i), some (.ref rv), some (.ref L), some (.str w)] ∧ H' = upd H6 L (.lst (zs.map V.str)) ∧ Lt w ps ch ∧ inV (.str w) resv = false, ?_, ?_⟩
    · refine ⟨_, .inl (SqL.of hrv3), rfl, rfl, ?_⟩
      refine ite2 (fun e => ?_) (fun e => ?_)
      · have e : inV (.str w) resv = true := e
        obtain ⟨z1, z2⟩ := resv_z e
        exact ⟨line_of (by show w.length + 1 ≤ _; omega), _, rfl, rfl, g1.z z2, z1⟩
      · exact ⟨w, rfl, rfl, g1, Bool.eq_false_iff.mpr e⟩
    rintro σ' H' ⟨w, rfl, rfl, g1, gr⟩
    refine ⟨.inl ⟨rfl, _, SqL.of upd_same⟩, L, _, _, rfl, rfl, upd_same, line_lt (by rw [List.length_map]; omega), ?_⟩
    refine ⟨_, _, zs ++ [w], rfl, ?_, by rw [List.length_append, hzl]; rfl, fun j z hj => ?_⟩
    · rw [upd_upd, List.map_append]
      rfl
    · by_cases h : j < zs.length
      · rw [List.getElem?_append_left h] at hj
        exact hzs j z hj
      · rw [List.getElem?_append_right (by omega)] at hj
        have hj0 : j - zs.length = 0 := by
          have := (List.getElem?_eq_some_iff.mp hj).1
          rw [List.length_singleton] at this
          omega
        rw [hj0] at hj
        cases hj
        rw [show j = i by omega, hcc]
        exact ⟨g1, gr⟩
  · rintro σ' H' ⟨y, z, zs, rfl, rfl, hzl, hzs⟩
    refine q _ L zs ?_ (hd6.at Ls Lc) L0 upd_same (by omega) (fun z hz => ?_) ?_
    · intro b o nb hb
      rw [upd_ne (ne_of_none hb L0)]
      exact b6 b o nb hb
    · obtain ⟨j, hj, e⟩ := List.getElem_of_mem hz
      obtain ⟨h1, h2⟩ := hzs j z (by rw [List.getElem?_eq_getElem hj, e])
      exact ⟨h1.name h2, h1.2.2⟩
    · show List.Pairwise (· ≠ ·) zs
      rw [List.pairwise_iff_getElem]
      intro i j hi hj hij e
      have ej : zs[j]? = some zs[j] := List.getElem?_eq_getElem hj
      have ei : zs[i]? = some zs[j] := by rw [← e]; exact List.getElem?_eq_getElem hi
      obtain ⟨h1, _⟩ := hzs i _ ei
      obtain ⟨h2, _⟩ := hzs j _ ej
      have := h1.2.1.symm.trans h2.2.1
      have := Option.some.inj this
      omega
end
section
variable {P : Program} {w : World} {K : PySem.W.Frag} {mg : Str → Option Value} {base : Heap}
variable {t_DIGITS t_LETTERS t_LONGEST_NAME : Tok} {a_DEEDS a_MARKS a_RESERVED a_SIGNS a_BadName a_BadPlan a_BadText a_ElseputError a_Plan a_Reader : Addr}
/-! ### steps that are drawn -/
structure Good (ps : List Stp) : Prop where
  nd : ps.Nodup
  dd : ∀ s ∈ ps, s.1 ∈ deeds
  fo : ∀ (i : Nat) (k : Str), ps[i]? = some (fr k) → tk k ∈ ps.take i
theorem Good.nil : Good [] := ⟨List.nodup_nil, fun _ h => (nomatch h), fun _ _ h => by simp at h⟩
theorem Good.add {ps : List Stp} {s : Stp} (g : Good ps) (n : s ∉ ps) (d : s.1 ∈ deeds) (f : ∀ k, s = fr k → tk k ∈ ps) : Good (ps ++ [s]) := by
  refine ⟨List.nodup_append.mpr ⟨g.nd, by simp, fun a ha b hb e => ?_⟩, fun u hu => ?_, fun i k e => ?_⟩
  · rw [List.mem_singleton.mp hb] at e
    exact n (e ▸ ha)
  · rcases List.mem_append.mp hu with h | h
    · exact g.dd u h
    · rw [List.mem_singleton.mp h]
      exact d
  · by_cases hi : i < ps.length
    · rw [List.getElem?_append_left hi] at e
      rw [List.take_append_of_le_length (by omega)]
      exact g.fo i k e
    · rw [List.getElem?_append_right (by omega)] at e
      have hz : i - ps.length = 0 := by
        by_cases z : i - ps.length = 0
        · exact z
        · rw [List.getElem?_eq_none (by rw [List.length_singleton]; omega)] at e
          cases e
      rw [hz] at e
      rw [List.take_append_of_le_length (by omega), List.take_of_length_le (by omega)]
      exact f k (Option.some.inj e)
/-- ps0 and steps of k behind it, of which a, b, c tell -/
structure Mid (ps0 : List Stp) (k : Str) (n : Nat) (a b c : Prop) (ps : List Stp) : Prop where
  g : Good ps
  old : ∀ s ∈ ps0, s ∈ ps
  new : ∀ s ∈ ps, s ∈ ps0 ∨ s.2 = k
  a_ : tk k ∈ ps ↔ a
  b_ : lo k ∈ ps ↔ b
  c_ : fr k ∈ ps ↔ c
  len : ps.length ≤ ps0.length + n
theorem Mid.to {ps0 ps : List Stp} {k : Str} {n m : Nat} {a b c a' b' c' : Prop} (h : Mid ps0 k n a b c ps) (l : n ≤ m) (ha : a ↔ a') (hb : b ↔ b') (hc : c ↔ c') : Mid ps0 k m a' b' c' ps :=
  ⟨h.g, h.old, h.new, h.a_.trans ha, h.b_.trans hb, h.c_.trans hc, by have := h.len; omega⟩
theorem mem_snoc {α : Type} {l : List α} {x y : α} : x ∈ l ++ [y] ↔ x ∈ l ∨ x = y := by rw [List.mem_append, List.mem_singleton]
theorem Mid.add {ps0 ps : List Stp} {k : Str} {n : Nat} {a b c : Prop} (h : Mid ps0 k n a b c ps) (s : Stp) (e : s.2 = k) (ns : s ∉ ps) (d : s.1 ∈ deeds) (f : ∀ k, s = fr k → tk k ∈ ps) : Mid ps0 k (n + 1) (a ∨ tk k = s) (b ∨ lo k = s) (c ∨ fr k = s) (ps ++ [s]) := by
  refine ⟨h.g.add ns d f, fun u hu => mem_snoc.mpr (.inl (h.old u hu)), fun u hu => ?_, ?_, ?_, ?_, ?_⟩
  · rcases mem_snoc.mp hu with z | z
    · exact h.new u z
    · exact .inr (by rw [z]; exact e)
  · rw [mem_snoc, h.a_]
  · rw [mem_snoc, h.b_]
  · rw [mem_snoc, h.c_]
  · have := h.len
    rw [List.length_append, List.length_singleton]
    omega
theorem tk_lo (k j : Str) : tk k ≠ lo j := fun h => absurd (congrArg Prod.fst h) (by decide +kernel : ("take" : Str) ≠ "look")
theorem tk_fr (k j : Str) : tk k ≠ fr j := fun h => absurd (congrArg Prod.fst h) (by decide +kernel : ("take" : Str) ≠ "free")
theorem lo_fr (k j : Str) : lo k ≠ fr j := fun h => absurd (congrArg Prod.fst h) (by decide +kernel : ("look" : Str) ≠ "free")
theorem Mid.take {ps0 ps : List Stp} {k : Str} {n : Nat} {a b c : Prop} (h : Mid ps0 k n a b c ps) (na : ¬ a) : Mid ps0 k (n + 1) True b c (ps ++ [tk k]) :=
  (h.add (tk k) rfl (fun z => na (h.a_.mp z)) (by show ("take" : Str) ∈ deeds; decide +kernel) fun j e => absurd e (tk_fr k j)).to (Nat.le_refl _) ⟨fun _ => trivial, fun _ => .inr rfl⟩ ⟨fun z => z.elim id fun z => absurd z.symm (tk_lo k k), .inl⟩ ⟨fun z => z.elim id fun z => absurd z.symm (tk_fr k k), .inl⟩
theorem Mid.look {ps0 ps : List Stp} {k : Str} {n : Nat} {a b c : Prop} (h : Mid ps0 k n a b c ps) (nb : ¬ b) : Mid ps0 k (n + 1) a True c (ps ++ [lo k]) :=
  (h.add (lo k) rfl (fun z => nb (h.b_.mp z)) (by show ("look" : Str) ∈ deeds; decide +kernel) fun j e => absurd e (lo_fr k j)).to (Nat.le_refl _) ⟨fun z => z.elim id fun z => absurd z (tk_lo k k), .inl⟩ ⟨fun _ => trivial, fun _ => .inr rfl⟩ ⟨fun z => z.elim id fun z => absurd z.symm (lo_fr k k), .inl⟩
theorem Mid.free {ps0 ps : List Stp} {k : Str} {n : Nat} {a b c : Prop} (h : Mid ps0 k n a b c ps) (nc : ¬ c) (ha : a) : Mid ps0 k (n + 1) a b True (ps ++ [fr k]) :=
  (h.add (fr k) rfl (fun z => nc (h.c_.mp z)) (by show ("free" : Str) ∈ deeds; decide +kernel) fun j e => by cases e; exact h.a_.mpr ha).to (Nat.le_refl _) ⟨fun z => z.elim id fun z => absurd z (tk_fr k k), .inl⟩ ⟨fun z => z.elim id fun z => absurd z (lo_fr k k), .inl⟩ ⟨fun _ => trivial, fun _ => .inr rfl⟩
/-- valid steps over the keys cs -/
structure Wild (cs : List Str) (ps : List Stp) : Prop where
  g : Good ps
  sub : ∀ s ∈ ps, s.2 ∈ cs
  all : ∀ k ∈ cs, lo k ∈ ps
  len : ps.length ≤ 40
  ne : cs ≠ [] → ps ≠ []
theorem Wild.fits {cs : List Str} {ps : List Stp} (h : Wild cs ps) (n : ps ≠ []) : stepsFit ps = true := by
  unfold stepsFit
  rw [decide_eq_true n, decide_eq_true h.g.nd, Bool.true_and, Bool.true_and, List.all_eq_true]
  intro i hi
  have hi := List.mem_range.mp hi
  obtain ⟨p, e⟩ : ∃ p, ps[i]? = some p := ⟨_, List.getElem?_eq_getElem hi⟩
  rw [e]
  obtain ⟨d, k⟩ := p
  have m := List.mem_of_getElem? e
  show stepFits ps i (d, k) = true
  unfold stepFits
  rw [if_neg fun z => z.2 (h.g.fo i k (by rw [e]; exact congrArg (fun d => some (d, k)) z.1)), decide_eq_true (h.g.dd _ m), decide_eq_true (h.all _ (h.sub _ m))]
  rfl
theorem keys_fits {cs zs : List Str} {ps : List Stp} (h : Wild cs ps) (n : zs.Nodup) (s : ∀ z ∈ zs, z ∈ cs) : keysFit ps zs = true := by
  unfold keysFit
  rw [decide_eq_true n, Bool.true_and, List.all_eq_true]
  exact fun z hz => decide_eq_true (h.all z (s z hz))
/-! ### the lists in hand -/
def unV : V → Str
  | .str z => z
  | _ => Str.empty
theorem perm_strs {ys : List V} {zs : List Str} (h : ys.Perm (zs.map V.str)) : ∃ ws : List Str, ys = ws.map V.str ∧ ws.Perm zs := by
  refine ⟨ys.map unV, ?_, ?_⟩
  · rw [List.map_map]
    conv => lhs; rw [← List.map_id ys]
    refine List.map_congr_left fun v hv => ?_
    obtain ⟨z, _, rfl⟩ := List.mem_map.mp (h.mem_iff.mp hv)
    rfl
  · have z := h.map unV
    rw [List.map_map] at z
    have e : zs.map (unV ∘ V.str) = zs := by
      conv => rhs; rw [← List.map_id zs]
      rfl
    rw [e] at z
    exact z
/-- a list of steps at R, in a heap that comes from H0 -/
structure WR (K : PySem.W.Frag) (H0 H : Hp) (st scr R : Addr) (ps : List Stp) : Prop where
  bt : Bt st H0 H
  dr : DrAt H st scr
  r : ∃ us, H R = some (.lst us) ∧ PairsIn K H us ps
theorem wr_add {K : PySem.W.Frag} {H0 H : Hp} {st scr R T : Addr} {ps : List Stp} {us : List V} (w : WR K H0 H st scr R ps) (nR : H0 R = none) (dR : DrAt H0 st scr) (hR : H R = some (.lst us)) (hp : PairsIn K H us ps) (nT : H T = none) (s : Stp) :
    WR K H0 (upd (upd H T (.tup [.str s.1, .str s.2])) R (.lst (us ++ [.ref T]))) st scr R (ps ++ [s]) ∧ ∀ b o, b ≠ R → H b = some o → (upd (upd H T (.tup [.str s.1, .str s.2])) R (.lst (us ++ [.ref T]))) b = some o := by
  have keep : ∀ b o, b ≠ R → H b = some o → (upd (upd H T (.tup [.str s.1, .str s.2])) R (.lst (us ++ [.ref T]))) b = some o := fun b o n e => by rw [upd_ne n]; exact same_new nT _ _ e
  have hs := same_new (o := .tup [.str s.1, .str s.2]) nT
  have ne1 := dR.ne_new nR
  have ne2 := dR.ne_scr nR
  refine ⟨⟨fun b o n e => keep b o (ne_of_none e nR) (w.bt b o n e), (w.dr.new hs).at ne1 ne2, us ++ [.ref T], upd_same, ?_⟩, keep⟩
  refine pairs_snoc (pairs_bt (pairs_same hp hs) (NT.lst ⟨_, hs _ _ hR⟩) Bt.st) ⟨T, rfl, SqT.of ?_⟩
  rw [upd_ne (ne_of_none hR nT).symm, upd_same]
theorem wr_draw {K : PySem.W.Frag} {H0 H : Hp} {st scr R : Addr} {ps : List Stp} {l : List V} (w : WR K H0 H st scr R ps) (nR : H0 R = none) (dR : DrAt H0 st scr) (d : DrAt (upd H st (.lst l)) st scr) : WR K H0 (upd H st (.lst l)) st scr R ps := by
  obtain ⟨us, e, hp⟩ := w.r
  exact ⟨w.bt.trans Bt.st, d, us, by rw [upd_ne (dR.ne_new nR)]; exact e, pairs_bt hp (NT.lst w.dr.lst) Bt.st⟩
/-- the lists of early and of late keys besides -/
def HP (K : PySem.W.Frag) (H0 H : Hp) (st scr R Ea La : Addr) (ps : List Stp) (es ls : List Str) : Prop := WR K H0 H st scr R ps ∧ H Ea = some (.lst (es.map V.str)) ∧ H La = some (.lst (ls.map V.str))
def sp__law_wild_steps (K : PySem.W.Frag) : Sp := fun vs H Q _ => ∃ (st scr p : Addr) (cs : List Str), vs = [.ref st, .ref p] ∧ DrAt H st scr ∧ H p = some (.lst (cs.map V.str)) ∧ p ≠ st ∧ cs.Nodup ∧ cs.length ≤ 4 ∧
  ∀ (H' : Hp) (R : Addr) (ps : List Stp), Bt st H H' → DrAt H' st scr → H R = none → (∃ us, H' R = some (.lst us) ∧ PairsIn K H' us ps) → Wild cs ps → Q (.ref R) H'
theorem len__law_wild_steps {vs : List V} {H : Hp} {Q : VK} {E : XK} (h : sp__law_wild_steps K vs H Q E) : vs.length = 2 := by
  obtain ⟨_, _, _, _, rfl, _⟩ := h
  rfl
theorem not_in_take {cs : List Str} {i : Nat} {k : Str} (n : cs.Nodup) (e : cs[i]? = some k) : k ∉ cs.take i := fun h => by
  obtain ⟨j, hj, ej⟩ := List.getElem_of_mem h
  have ej : (cs.take i)[j]? = some k := by rw [List.getElem?_eq_getElem hj, ej]
  rw [List.length_take] at hj
  rw [List.getElem?_take_of_lt (by omega)] at ej
  have := (List.getElem?_inj (by omega) n).mp (ej.trans e.symm)
  omega
theorem not_in_drop {cs : List Str} {i : Nat} {k : Str} (n : cs.Nodup) (e : cs[i]? = some k) {j : Str} (h : j ∈ cs.drop (i + 1)) : j ≠ k := fun z => by
  obtain ⟨hi, e2⟩ := List.getElem?_eq_some_iff.mp e
  have d : cs.drop i = k :: cs.drop (i + 1) := by rw [List.drop_eq_getElem_cons hi, e2]
  have nn : (cs.drop i).Nodup := n.sublist (List.drop_sublist i cs)
  rw [d, List.nodup_cons] at nn
  exact nn.1 (z ▸ h)
/-- behind the first i keys -/
structure Half (cs es ls : List Str) (i : Nat) (ps : List Stp) : Prop where
  g : Good ps
  sub : ∀ s ∈ ps, s.2 ∈ cs
  left : ∀ s ∈ ps, s.2 ∈ cs.drop i → s.1 = "take" ∧ s.2 ∈ es
  done : ∀ k ∈ cs.take i, lo k ∈ ps
  late : ls.Nodup ∧ ∀ k ∈ ls, k ∈ cs.take i ∧ tk k ∈ ps ∧ fr k ∉ ps
  early : ∀ k ∈ es, tk k ∈ ps
  len : ps.length ≤ 4 + 5 * i ∧ ls.length ≤ i
theorem Half.mid {cs es ls : List Str} {i : Nat} {ps : List Stp} {k : Str} (h : Half cs es ls i ps) (e : cs[i]? = some k) : Mid ps k 0 (k ∈ es) False False ps := by
  obtain ⟨hi, e2⟩ := List.getElem?_eq_some_iff.mp e
  have kd : k ∈ cs.drop i := by
    rw [List.drop_eq_getElem_cons hi, e2]
    exact List.mem_cons_self
  refine ⟨h.g, fun _ z => z, fun _ z => .inl z, ⟨fun z => (h.left _ z kd).2, h.early k⟩, ⟨fun z => ?_, False.elim⟩, ⟨fun z => ?_, False.elim⟩, Nat.le_refl _⟩
  · exact absurd (h.left _ z kd).1 (by show ("look" : Str) ≠ "take"; decide +kernel)
  · exact absurd (h.left _ z kd).1 (by show ("free" : Str) ≠ "take"; decide +kernel)
theorem Half.next {cs es ls ls' : List Str} {i : Nat} {ps ps' : List Stp} {k : Str} {a c : Prop} (h : Half cs es ls i ps) (n : cs.Nodup) (e : cs[i]? = some k) (m : Mid ps k 5 a True c ps') (hl : ls' = ls ∨ (ls' = ls ++ [k] ∧ a ∧ ¬ c)) (es_ : ∀ k ∈ es, k ∈ cs) : Half cs es ls' (i + 1) ps' := by
  have kt := not_in_take n e
  have km : k ∈ cs := List.mem_of_getElem? e
  have old : ∀ j, j ∈ cs.take i → ∀ d, ((d, j) : Stp) ∈ ps' → ((d, j) : Stp) ∈ ps := fun j hj d hd => (m.new _ hd).elim id fun z => absurd (z ▸ hj) kt
  refine ⟨m.g, fun s hs => (m.new s hs).elim (h.sub s) (fun z => z ▸ km), fun s hs hd => ?_, fun j hj => ?_, ?_, fun j hj => m.old _ (h.early j hj), ?_⟩
  · rcases m.new s hs with z | z
    · exact h.left s z (List.mem_of_mem_drop (l := cs.drop i) (i := 1) (by rw [List.drop_drop]; exact hd))
    · exact absurd z (not_in_drop n e hd)
  · rw [take_snoc e] at hj
    rcases mem_snoc.mp hj with z | z
    · exact m.old _ (h.done j z)
    · rw [z]
      exact m.b_.mpr trivial
  · have up : ∀ j ∈ ls, j ∈ cs.take (i + 1) ∧ tk j ∈ ps' ∧ fr j ∉ ps' := fun j hj => by
      obtain ⟨u1, u2, u3⟩ := h.late.2 j hj
      exact ⟨by rw [take_snoc e]; exact List.mem_append_left _ u1, m.old _ u2, fun z => u3 (old j u1 _ z)⟩
    rcases hl with rfl | ⟨rfl, ha, hc⟩
    · exact ⟨h.late.1, up⟩
    · refine ⟨List.nodup_append.mpr ⟨h.late.1, by simp, fun u hu v hv z => ?_⟩, fun j hj => ?_⟩
      · rw [List.mem_singleton.mp hv] at z
        exact kt (z ▸ (h.late.2 u hu).1)
      · rcases mem_snoc.mp hj with z | z
        · exact up j z
        · rw [z]
          exact ⟨by rw [take_snoc e]; exact mem_snoc.mpr (.inr rfl), m.a_.mpr ha, fun w => hc (m.c_.mp w)⟩
  · have := m.len
    have := h.len
    rcases hl with rfl | ⟨rfl, _⟩
    · omega
    · rw [List.length_append, List.length_singleton]
      omega
theorem ok__law_wild_steps {f : Addr} {fd : FuncData} {f__law_mixed : Addr} {fd__law_mixed : FuncData} {f__law_draw : Addr} {fd__law_draw : FuncData} (F : Fun K "_law_wild_steps" "_law_wild_steps" s__law_wild_steps f fd) (T : Gs K mg t_DIGITS t_LETTERS t_LONGEST_NAME a_DEEDS a_MARKS a_RESERVED a_SIGNS a_BadName a_BadPlan a_BadText a_ElseputError a_Plan a_Reader) (c__law_mixed : Cal P w K mg base CX0 2 "_law_mixed" f__law_mixed fd__law_mixed ["_law_state_here", "_law_row"] (sp__law_mixed K)) (c__law_draw : Cal P w K mg base CX0 1 "_law_draw" f__law_draw fd__law_draw ["_law_state_here", "_law_many"] (sp__law_draw K)) : FnOk P w K mg base CX0 3 f fd ["_law_state_here", "_law_carried"] (sp__law_wild_steps K) := by
  refine F.ok sc__law_wild_steps (fun vs H Q E h => len__law_wild_steps h) (fun cdv A outer s H vs Q E hr h => ?_)
  obtain ⟨st, scr, p, cs, rfl, hd, hp, hne, nd, lc, q⟩ := h
  refine ⟨_, (pss_cons (ps_set (i := 2) sc__law_wild_steps.nd rfl (.inl rfl) (pe_lst pa_nil)) (pss_cons (ps_set (i := 3) sc__law_wild_steps.nd rfl (.inl rfl) (pe_lst pa_nil)) (pss_cons (ps_for PassesOwn.never rfl (pi_list (pe_call c__law_mixed.G (hr.mono (by first | decide | omega)) rfl c__law_mixed.m c__law_mixed.kp c__law_mixed.b .nil pass0 (pa_cons (v_ 0) (pa_cons (v_ 1) pa_nil)))) (pg_name (i := 4) sc__law_wild_steps.nd rfl (.inl rfl)) (pss_one (ps_if (pt_c (eqK K hr.units) (pe_call c__law_draw.G (hr.mono (by first | decide | omega)) rfl c__law_draw.m c__law_draw.kp c__law_draw.b .nil pass0 (pa_cons (v_ 0) (pa_cons pe_int pa_nil))) pe_int) (pss_cons (ps_expr (pe_bm PySem.F.plainAttrs_list PySem.F.slot_list_append PySem.F.type_list_append mt_append (v_ 2) (pa_cons (pe_tup (pa_cons pe_str (pa_cons (v_ 4) pa_nil))) pa_nil))) (pss_one (ps_expr (pe_bm PySem.F.plainAttrs_list PySem.F.slot_list_append PySem.F.type_list_append mt_append (v_ 3) (pa_cons (v_ 4) pa_nil))))) pss_nil))) (pss_cons (ps_set (i := 5) sc__law_wild_steps.nd rfl (.inl rfl) (pe_lst pa_nil)) (pss_cons (ps_for PassesOwn.never rfl (pi_list (v_ 1)) (pg_name (i := 4) sc__law_wild_steps.nd rfl (.inl rfl)) (pss_cons (ps_set (i := 6) sc__law_wild_steps.nd rfl (.inl rfl) (pe_call c__law_draw.G (hr.mono (by first | decide | omega)) rfl c__law_draw.m c__law_draw.kp c__law_draw.b .nil pass0 (pa_cons (v_ 0) (pa_cons pe_int pa_nil)))) (Evl.pss_cut (ps_if (PW.pt (pw_and (pt_c (notInK K) (v_ 4) (v_ 3)) (pw_and1 (pt_c op_gtM (v_ 6) pe_int)))) (pss_one (ps_expr (pe_bm PySem.F.plainAttrs_list PySem.F.slot_list_append PySem.F.type_list_append mt_append (v_ 2) (pa_cons (pe_tup (pa_cons pe_str (pa_cons (v_ 4) pa_nil))) pa_nil)))) pss_nil) (Evl.pss_cut (ps_if (pt_c (eqK K hr.units) (v_ 6) pe_int) (pss_one (ps_expr (pe_bm PySem.F.plainAttrs_list PySem.F.slot_list_append PySem.F.type_list_append mt_append (v_ 2) (pa_cons (pe_tup (pa_cons pe_str (pa_cons (v_ 4) pa_nil))) pa_nil)))) pss_nil) (pss_cons (ps_expr (pe_bm PySem.F.plainAttrs_list PySem.F.slot_list_append PySem.F.type_list_append mt_append (v_ 2) (pa_cons (pe_tup (pa_cons pe_str (pa_cons (v_ 4) pa_nil))) pa_nil))) (Evl.pss_cut (ps_if (PW.pt (pw_and (pt_c (notInK K) (v_ 4) (v_ 3)) (pw_and1 (pt_c (eqK K hr.units) (v_ 6) pe_int)))) (pss_one (ps_expr (pe_bm PySem.F.plainAttrs_list PySem.F.slot_list_append PySem.F.type_list_append mt_append (v_ 2) (pa_cons (pe_tup (pa_cons pe_str (pa_cons (v_ 4) pa_nil))) pa_nil)))) pss_nil) (Evl.pss_cut (ps_if (pt_c (eqK K hr.units) (v_ 6) pe_int) (pss_one (ps_expr (pe_bm PySem.F.plainAttrs_list PySem.F.slot_list_append PySem.F.type_list_append mt_append (v_ 2) (pa_cons (pe_tup (pa_cons pe_str (pa_cons (v_ 4) pa_nil))) pa_nil)))) pss_nil) (pss_one (ps_if (pt_c (eqK K hr.units) (v_ 6) pe_int) (pss_one (ps_expr (pe_bm PySem.F.plainAttrs_list PySem.F.slot_list_append PySem.F.type_list_append mt_append (v_ 5) (pa_cons (v_ 4) pa_nil)))) pss_nil))))))))) (pss_cons (ps_for PassesOwn.never rfl (pi_list (v_ 5)) (pg_name (i := 4) sc__law_wild_steps.nd rfl (.inl rfl)) (pss_one (ps_expr (pe_bm PySem.F.plainAttrs_list PySem.F.slot_list_append PySem.F.type_list_append mt_append (v_ 2) (pa_cons (pe_tup (pa_cons pe_str (pa_cons (v_ 4) pa_nil))) pa_nil))))) (pss_one (ps_ret (v_ 2))))))))), ?_⟩
  refine ⟨Nat.zero_le _, fun R nR => ?_⟩
  refine ⟨Nat.zero_le _, fun Ea nE => ?_⟩
  have ER : Ea ≠ R := new_ne nE
  have nE0 := free_new nE
  have dRs := hd.ne_new nR
  have dEs := hd.ne_new nE0
  have pR : p ≠ R := ne_of_none hp nR
  have pE : p ≠ Ea := ne_of_none hp nE0
  have sm0 := (same_new (o := .lst []) nR).trans (same_new (o := .lst []) nE)
  have w0 : WR K H (upd (upd H R (.lst [])) Ea (.lst [])) st scr R [] := ⟨Bt.same sm0, hd.new sm0, [], by rw [upd_ne ER.symm, upd_same], .nil⟩
  have e0 : (upd (upd H R (.lst [])) Ea (.lst [])) Ea = some (.lst (([] : List Str).map V.str)) := upd_same
  generalize upd (upd H R (.lst [])) Ea (.lst []) = H1 at w0 e0 sm0 ⊢
  refine ⟨st, scr, p, cs.map V.str, rfl, w0.dr, sm0 _ _ hp, hne, by rw [List.length_map]; omega, fun H2 m ys b2 d2 nm hm pm => ?_⟩
  obtain ⟨ms, eys, pmS⟩ := perm_strs pm
  subst eys
  clear pm
  have lm := pmS.length_eq
  have nm' : ms.Nodup := pmS.nodup_iff.mpr nd
  have w2 : WR K H H2 st scr R [] := by
    obtain ⟨us, e, hu⟩ := w0.r
    exact ⟨w0.bt.trans b2, d2, us, b2 _ _ dRs e, pairs_bt hu (NT.lst w0.dr.lst) b2⟩
  have e2 : H2 Ea = some (.lst (([] : List Str).map V.str)) := b2 _ _ dEs e0
  have mR : m ≠ R := by
    obtain ⟨us, e, hu⟩ := w0.r
    exact (ne_of_none e nm).symm
  have mE : m ≠ Ea := (ne_of_none e0 nm).symm
  have ms_ : m ≠ st := w0.dr.ne_new nm
  refine ⟨m, rfl, ⟨_, SqL.of hm⟩, ?_⟩
  refine for_list (K := K) (a := m) (xs := ms.map V.str) (fun i σ' H' => ∃ (y : Option V) (es : List Str), σ' = [some (.ref st), some (.ref p), some (.ref R), some (.ref Ea), y, none, none] ∧ WR K H H' st scr R (es.map tk) ∧ H' Ea = some (.lst (es.map V.str)) ∧ H' m = some (.lst (ms.map V.str)) ∧ es.Nodup ∧ (∀ k ∈ es, k ∈ ms.take i) ∧ es.length ≤ i) ⟨_, [], rfl, w2, e2, hm, List.nodup_nil, (fun _ h => nomatch h), Nat.le_refl _⟩ (fun i σ' H' _ h => by obtain ⟨_, _, _, _, _, h, _⟩ := h; exact SqL.of h) ?_ ?_
  · rintro i v σ' H3 hi ⟨y, es, rfl, w, he, hm3, ne, te, le⟩
    rw [List.getElem?_map] at hi
    obtain ⟨k, ek, rfl⟩ := Option.map_eq_some_iff.mp hi
    have il := (List.getElem?_eq_some_iff.mp ek).1
    refine ⟨st, scr, 4, rfl, w.dr, by decide, many_small (by decide) (by decide), fun r l r0 r1 d3 => ?_⟩
    have w := wr_draw w nR hd d3
    have he : upd H3 st (.lst l) Ea = some (.lst (es.map V.str)) := by rw [upd_ne dEs]; exact he
    have hm3 : upd H3 st (.lst l) m = some (.lst (ms.map V.str)) := by rw [upd_ne ms_]; exact hm3
    generalize upd H3 st (.lst l) = H4 at w he hm3 ⊢
    refine ite2 (fun c => ?_) (fun c => ?_)
    · obtain ⟨us, hR, hp1⟩ := w.r
      have ul := pairs_len hp1
      rw [List.length_map] at ul
      refine ⟨.inl ⟨rfl, _, SqL.of hR⟩, (by show 2 ≤ sizeLine; decide), fun T nT => ⟨R, us, .ref T, rfl, rfl, (same_new nT) _ _ hR, line_lt (by omega), ?_⟩⟩
      obtain ⟨w5, k5⟩ := wr_add w nR hd hR hp1 nT (tk k)
      have he5 := k5 _ _ ER he
      have hm5 := k5 _ _ mR hm3
      have nk : k ∉ es := fun h => not_in_take nm' ek (te k h)
      show (fun H5 => _) (upd (upd H4 T (.tup [.str (tk k).1, .str (tk k).2])) R (.lst (us ++ [.ref T])))
      generalize upd (upd H4 T (.tup [.str (tk k).1, .str (tk k).2])) R (.lst (us ++ [.ref T])) = H5 at w5 he5 hm5 ⊢
      refine ⟨.inl ⟨rfl, _, SqL.of he5⟩, Ea, es.map V.str, .str k, rfl, rfl, he5, line_lt (by rw [List.length_map]; omega), ?_⟩
      obtain ⟨us5, hR5, hp5⟩ := w5.r
      refine ⟨_, es ++ [k], rfl, ⟨fun b o n e => ?_, w5.dr.at dEs (hd.ne_scr nE0), us5, ?_, ?_⟩, ?_, ?_, ?_, ?_, ?_⟩
      · rw [upd_ne (ne_of_none e nE0)]; exact w5.bt b o n e
      · rw [upd_ne ER.symm]; exact hR5
      · rw [List.map_append]
        exact pairs_bt hp5 (NT.lst ⟨_, he5⟩) Bt.st
      · rw [upd_same, List.map_append]; rfl
      · rw [upd_ne mE]; exact hm5
      · exact List.nodup_append.mpr ⟨ne, by simp, fun a ha b hb e => nk (by rw [← List.mem_singleton.mp hb, ← e]; exact ha)⟩
      · intro j hj
        rw [take_snoc ek]
        rcases mem_snoc.mp hj with z | z
        · exact mem_snoc.mpr (.inl (te j z))
        · exact mem_snoc.mpr (.inr z)
      · rw [List.length_append, List.length_singleton]; omega
    · exact ⟨_, es, rfl, w, he, hm3, ne, fun j hj => by rw [take_snoc ek]; exact mem_snoc.mpr (.inl (te j hj)), by omega⟩
  rintro σ' H3 ⟨y, es, rfl, w3, he3, _, ne, te, le⟩
  rw [List.length_map] at te le
  rw [List.take_length] at te
  have ce : ∀ k ∈ es, k ∈ cs := fun k hk => pmS.mem_iff.mp (te k hk)
  refine ⟨Nat.zero_le _, fun La nL => ?_⟩
  have LR : La ≠ R := by
    obtain ⟨us, e, _⟩ := w3.r
    exact (ne_of_none e nL).symm
  have LE : La ≠ Ea := (ne_of_none he3 nL).symm
  have Ls : La ≠ st := w3.dr.ne_new nL
  have Lc : La ≠ scr := w3.dr.ne_scr nL
  have nL0 : H La = none := w3.bt.free Ls nL
  have sL := same_new (o := .lst []) nL
  have w4 : WR K H (upd H3 La (.lst [])) st scr R (es.map tk) := by
    obtain ⟨us, e, hu⟩ := w3.r
    exact ⟨w3.bt.trans (Bt.same sL), w3.dr.new sL, us, sL _ _ e, pairs_same hu sL⟩
  have he4 : (upd H3 La (.lst [])) Ea = some (.lst (es.map V.str)) := sL _ _ he3
  have hL4 : (upd H3 La (.lst [])) La = some (.lst (([] : List Str).map V.str)) := upd_same
  generalize upd H3 La (.lst []) = H4 at w4 he4 hL4 ⊢
  clear w3 he3 nL sL
  refine ⟨p, rfl, ⟨_, SqL.of (w4.bt _ _ hne hp)⟩, ?_⟩
  have tkn : ∀ k, tk k ∈ es.map tk ↔ k ∈ es := fun k => by
    rw [List.mem_map]
    exact ⟨fun ⟨j, hj, e⟩ => by cases e; exact hj, fun h => ⟨k, h, rfl⟩⟩
  have half0 : Half cs es [] 0 (es.map tk) := by
    refine ⟨⟨?_, fun s hs => ?_, fun i k e => ?_⟩, fun s hs => ?_, fun s hs _ => ?_, (fun _ h => nomatch h), ⟨List.nodup_nil, fun _ h => nomatch h⟩, fun k hk => (tkn k).mpr hk, ?_⟩
    · exact List.pairwise_map.mpr (List.Pairwise.imp (fun n e => n (congrArg Prod.snd e)) ne)
    · obtain ⟨j, _, rfl⟩ := List.mem_map.mp hs
      show ("take" : Str) ∈ deeds
      decide +kernel
    · rw [List.getElem?_map] at e
      obtain ⟨j, _, e⟩ := Option.map_eq_some_iff.mp e
      exact absurd e (tk_fr j k)
    · obtain ⟨j, hj, rfl⟩ := List.mem_map.mp hs
      exact ce j hj
    · obtain ⟨j, hj, rfl⟩ := List.mem_map.mp hs
      exact ⟨rfl, hj⟩
    · rw [List.length_map, List.length_nil]
      omega
  refine for_list (K := K) (a := p) (xs := cs.map V.str) (fun i σ' H' => ∃ (y z : Option V) (ps : List Stp) (ls : List Str), σ' = [some (.ref st), some (.ref p), some (.ref R), some (.ref Ea), y, some (.ref La), z] ∧ Half cs es ls i ps ∧ WR K H H' st scr R ps ∧ H' Ea = some (.lst (es.map V.str)) ∧ H' La = some (.lst (ls.map V.str))) ⟨_, _, _, [], rfl, half0, w4, he4, hL4⟩ (fun i σ' H' _ h => by obtain ⟨_, _, _, _, _, _, h, _⟩ := h; exact SqL.of (h.bt _ _ hne hp)) ?_ ?_
  · rintro i v σ' H5 hi ⟨y, z, ps, ls, rfl, hf, w, he, hL⟩
    rw [List.getElem?_map] at hi
    obtain ⟨k, ek, rfl⟩ := Option.map_eq_some_iff.mp hi
    have il := (List.getElem?_eq_some_iff.mp ek).1
    have pl := hf.len
    refine ⟨st, scr, 16, rfl, w.dr, by decide, many_small (by decide) (by decide), fun c l r0 r1 d3 => ?_⟩
    have w := wr_draw w nR hd d3
    have he : upd H5 st (.lst l) Ea = some (.lst (es.map V.str)) := by rw [upd_ne dEs]; exact he
    have hL : upd H5 st (.lst l) La = some (.lst (ls.map V.str)) := by rw [upd_ne Ls]; exact hL
    generalize upd H5 st (.lst l) = H6 at w he hL ⊢
    clear d3
    have md := hf.mid ek
    -- taken before its look
    refine ⟨fun σ' H' => ∃ ps1, σ' = [some (.ref st), some (.ref p), some (.ref R), some (.ref Ea), some (.str k), some (.ref La), some (.int c)] ∧ Mid ps k 1 (k ∈ es ∨ 1 < c) False (False) ps1 ∧ WR K H H' st scr R ps1 ∧ H' Ea = some (.lst (es.map V.str)) ∧ H' La = some (.lst (ls.map V.str)), ?_, ?_⟩
    · refine ⟨_, .inl (SqL.of he), rfl, flat_strs, ?_⟩
      refine ite2 (fun c1 => ?_) (fun c1 => ?_)
      · have c1 : k ∉ es := by
          have c1 : (!inV (.str k) (es.map V.str)) = true := c1
          rw [inV_str] at c1
          simpa using c1
        refine ite2 (fun c2 => ?_) (fun c2 => ?_)
        · have c2 : 1 < c := of_decide_eq_true c2
          obtain ⟨us, hR, hp1⟩ := w.r
          have ul := pairs_len hp1
          have ml := md.len
          refine ⟨.inl ⟨rfl, _, SqL.of hR⟩, (by show 2 ≤ sizeLine; decide), fun T nT => ⟨R, us, .ref T, rfl, rfl, (same_new nT) _ _ hR, line_lt (by omega), ?_⟩⟩
          obtain ⟨w, kk⟩ := wr_add w nR hd hR hp1 nT (tk k)
          have he := kk _ _ ER he
          have hL := kk _ _ LR hL
          have md := md.take c1
          show (fun H9 => _) (upd (upd H6 T (.tup [.str (tk k).1, .str (tk k).2])) R (.lst (us ++ [.ref T])))
          generalize upd (upd H6 T (.tup [.str (tk k).1, .str (tk k).2])) R (.lst (us ++ [.ref T])) = H7 at w he hL ⊢
          exact ⟨_, rfl, md.to (Nat.le_refl _) ⟨fun _ => .inr c2, fun _ => trivial⟩ Iff.rfl Iff.rfl, w, he, hL⟩
        · have c2 : ¬ 1 < c := of_decide_eq_false (Bool.eq_false_iff.mpr c2)
          exact ⟨_, rfl, md.to (by omega) ⟨.inl, fun h => h.elim id fun h => absurd h c2⟩ Iff.rfl Iff.rfl, w, he, hL⟩
      · have c1 : k ∈ es := by
          have c1 : ¬ (!inV (.str k) (es.map V.str)) = true := c1
          rw [inV_str] at c1
          simpa using c1
        exact ⟨_, rfl, md.to (by omega) ⟨.inl, fun _ => c1⟩ Iff.rfl Iff.rfl, w, he, hL⟩
    clear md w he hL
    rintro σ' H6 ⟨ps1, rfl, md, w, he, hL⟩
    -- freed before its look
    refine ⟨fun σ' H' => ∃ ps1, σ' = [some (.ref st), some (.ref p), some (.ref R), some (.ref Ea), some (.str k), some (.ref La), some (.int c)] ∧ Mid ps k 2 (k ∈ es ∨ 1 < c) False (c = 2) ps1 ∧ WR K H H' st scr R ps1 ∧ H' Ea = some (.lst (es.map V.str)) ∧ H' La = some (.lst (ls.map V.str)), ?_, ?_⟩
    · refine ite2 (fun c1 => ?_) (fun c1 => ?_)
      · have c1 : c = 2 := of_decide_eq_true c1
        obtain ⟨us, hR, hp1⟩ := w.r
        have ul := pairs_len hp1
        have ml := md.len
        refine ⟨.inl ⟨rfl, _, SqL.of hR⟩, (by show 2 ≤ sizeLine; decide), fun T nT => ⟨R, us, .ref T, rfl, rfl, (same_new nT) _ _ hR, line_lt (by omega), ?_⟩⟩
        obtain ⟨w, kk⟩ := wr_add w nR hd hR hp1 nT (fr k)
        have he := kk _ _ ER he
        have hL := kk _ _ LR hL
        have md := md.free id (.inr (by omega))
        show (fun H9 => _) (upd (upd H6 T (.tup [.str (fr k).1, .str (fr k).2])) R (.lst (us ++ [.ref T])))
        generalize upd (upd H6 T (.tup [.str (fr k).1, .str (fr k).2])) R (.lst (us ++ [.ref T])) = H7 at w he hL ⊢
        exact ⟨_, rfl, md.to (Nat.le_refl _) Iff.rfl Iff.rfl ⟨fun _ => c1, fun _ => trivial⟩, w, he, hL⟩
      · have c1 : ¬ c = 2 := of_decide_eq_false (Bool.eq_false_iff.mpr c1)
        exact ⟨_, rfl, md.to (by omega) Iff.rfl Iff.rfl ⟨False.elim, c1⟩, w, he, hL⟩
    clear md w he hL
    rintro σ' H6 ⟨ps1, rfl, md, w, he, hL⟩
    -- looked at
    obtain ⟨us, hR, hp1⟩ := w.r
    have ul := pairs_len hp1
    have ml := md.len
    refine ⟨.inl ⟨rfl, _, SqL.of hR⟩, (by show 2 ≤ sizeLine; decide), fun T nT => ⟨R, us, .ref T, rfl, rfl, (same_new nT) _ _ hR, line_lt (by omega), ?_⟩⟩
    obtain ⟨w, kk⟩ := wr_add w nR hd hR hp1 nT (lo k)
    have he := kk _ _ ER he
    have hL := kk _ _ LR hL
    have md := md.look id
    show (fun H9 => _) (upd (upd H6 T (.tup [.str (lo k).1, .str (lo k).2])) R (.lst (us ++ [.ref T])))
    generalize upd (upd H6 T (.tup [.str (lo k).1, .str (lo k).2])) R (.lst (us ++ [.ref T])) = H7 at w he hL ⊢
    skip
    -- taken behind its look
    refine ⟨fun σ' H' => ∃ ps1, σ' = [some (.ref st), some (.ref p), some (.ref R), some (.ref Ea), some (.str k), some (.ref La), some (.int c)] ∧ Mid ps k 4 (k ∈ es ∨ 1 ≤ c) True (c = 2) ps1 ∧ WR K H H' st scr R ps1 ∧ H' Ea = some (.lst (es.map V.str)) ∧ H' La = some (.lst (ls.map V.str)), ?_, ?_⟩
    · refine ⟨_, .inl (SqL.of he), rfl, flat_strs, ?_⟩
      refine ite2 (fun c1 => ?_) (fun c1 => ?_)
      · have c1 : k ∉ es := by
          have c1 : (!inV (.str k) (es.map V.str)) = true := c1
          rw [inV_str] at c1
          simpa using c1
        refine ite2 (fun c2 => ?_) (fun c2 => ?_)
        · have c2 : c = 1 := of_decide_eq_true c2
          obtain ⟨us, hR, hp1⟩ := w.r
          have ul := pairs_len hp1
          have ml := md.len
          refine ⟨.inl ⟨rfl, _, SqL.of hR⟩, (by show 2 ≤ sizeLine; decide), fun T nT => ⟨R, us, .ref T, rfl, rfl, (same_new nT) _ _ hR, line_lt (by omega), ?_⟩⟩
          obtain ⟨w, kk⟩ := wr_add w nR hd hR hp1 nT (tk k)
          have he := kk _ _ ER he
          have hL := kk _ _ LR hL
          have md := md.take (fun h => h.elim c1 (by omega))
          show (fun H9 => _) (upd (upd H7 T (.tup [.str (tk k).1, .str (tk k).2])) R (.lst (us ++ [.ref T])))
          generalize upd (upd H7 T (.tup [.str (tk k).1, .str (tk k).2])) R (.lst (us ++ [.ref T])) = H8 at w he hL ⊢
          exact ⟨_, rfl, md.to (Nat.le_refl _) ⟨fun _ => .inr (by omega), fun _ => trivial⟩ Iff.rfl Iff.rfl, w, he, hL⟩
        · have c2 : ¬ c = 1 := of_decide_eq_false (Bool.eq_false_iff.mpr c2)
          exact ⟨_, rfl, md.to (by omega) ⟨fun h => h.imp id (by omega), fun h => h.imp id (by omega)⟩ Iff.rfl Iff.rfl, w, he, hL⟩
      · have c1 : k ∈ es := by
          have c1 : ¬ (!inV (.str k) (es.map V.str)) = true := c1
          rw [inV_str] at c1
          simpa using c1
        exact ⟨_, rfl, md.to (by omega) ⟨fun _ => .inl c1, fun _ => .inl c1⟩ Iff.rfl Iff.rfl, w, he, hL⟩
    clear md w he hL
    rintro σ' H6 ⟨ps1, rfl, md, w, he, hL⟩
    -- freed behind its look
    refine ⟨fun σ' H' => ∃ ps1, σ' = [some (.ref st), some (.ref p), some (.ref R), some (.ref Ea), some (.str k), some (.ref La), some (.int c)] ∧ Mid ps k 5 (k ∈ es ∨ 1 ≤ c) True (c = 2 ∨ c = 3) ps1 ∧ WR K H H' st scr R ps1 ∧ H' Ea = some (.lst (es.map V.str)) ∧ H' La = some (.lst (ls.map V.str)), ?_, ?_⟩
    · refine ite2 (fun c1 => ?_) (fun c1 => ?_)
      · have c1 : c = 3 := of_decide_eq_true c1
        obtain ⟨us, hR, hp1⟩ := w.r
        have ul := pairs_len hp1
        have ml := md.len
        refine ⟨.inl ⟨rfl, _, SqL.of hR⟩, (by show 2 ≤ sizeLine; decide), fun T nT => ⟨R, us, .ref T, rfl, rfl, (same_new nT) _ _ hR, line_lt (by omega), ?_⟩⟩
        obtain ⟨w, kk⟩ := wr_add w nR hd hR hp1 nT (fr k)
        have he := kk _ _ ER he
        have hL := kk _ _ LR hL
        have md := md.free (by omega) (.inr (by omega))
        show (fun H9 => _) (upd (upd H6 T (.tup [.str (fr k).1, .str (fr k).2])) R (.lst (us ++ [.ref T])))
        generalize upd (upd H6 T (.tup [.str (fr k).1, .str (fr k).2])) R (.lst (us ++ [.ref T])) = H7 at w he hL ⊢
        exact ⟨_, rfl, md.to (Nat.le_refl _) Iff.rfl Iff.rfl ⟨fun _ => .inr c1, fun _ => trivial⟩, w, he, hL⟩
      · have c1 : ¬ c = 3 := of_decide_eq_false (Bool.eq_false_iff.mpr c1)
        exact ⟨_, rfl, md.to (by omega) Iff.rfl Iff.rfl ⟨.inl, fun h => h.elim id fun h => absurd h c1⟩, w, he, hL⟩
    clear md w he hL
    rintro σ' H6 ⟨ps1, rfl, md, w, he, hL⟩
    -- freed at the end
    refine ite2 (fun c1 => ?_) (fun c1 => ?_)
    · have c1 : c = 4 := of_decide_eq_true c1
      refine ⟨.inl ⟨rfl, _, SqL.of hL⟩, La, ls.map V.str, .str k, rfl, rfl, hL, line_lt (by rw [List.length_map]; omega), ?_⟩
      refine ⟨_, _, ps1, ls ++ [k], rfl, hf.next nd ek md (.inr ⟨rfl, .inr (by omega), by omega⟩) ce, ⟨fun b o n e => ?_, w.dr.at Ls Lc, ?_⟩, by rw [upd_ne LE.symm]; exact he, by rw [upd_same, List.map_append]; rfl⟩
      · rw [upd_ne (ne_of_none e nL0)]; exact w.bt b o n e
      · obtain ⟨us, e, hu⟩ := w.r
        exact ⟨us, by rw [upd_ne LR.symm]; exact e, pairs_bt hu (NT.lst ⟨_, hL⟩) Bt.st⟩
    · exact ⟨_, _, ps1, ls, rfl, hf.next nd ek md (.inl rfl) ce, w, he, hL⟩
  rintro σ' H5 ⟨y, z, ps, ls, rfl, hf, w, he, hL⟩
  rw [List.length_map] at hf
  have hl := hf.len
  have late := hf.late
  rw [List.take_length] at late
  have done := hf.done
  rw [List.take_length] at done
  refine ⟨La, rfl, ⟨_, SqL.of hL⟩, ?_⟩
  refine for_list (K := K) (a := La) (xs := ls.map V.str) (fun i σ' H' => ∃ (y z : Option V) (ps1 : List Stp), σ' = [some (.ref st), some (.ref p), some (.ref R), some (.ref Ea), y, some (.ref La), z] ∧ Good ps1 ∧ (∀ s ∈ ps, s ∈ ps1) ∧ (∀ s ∈ ps1, s ∈ ps ∨ ∃ k ∈ ls.take i, s = fr k) ∧ ps1.length ≤ ps.length + i ∧ WR K H H' st scr R ps1 ∧ H' La = some (.lst (ls.map V.str))) ⟨_, _, ps, rfl, hf.g, fun _ h => h, fun _ h => .inl h, Nat.le_refl _, w, hL⟩ (fun i σ' H' _ h => by obtain ⟨_, _, _, _, _, _, _, _, _, h⟩ := h; exact SqL.of h) ?_ ?_
  · rintro i v σ' H6 hi ⟨y, z, ps1, rfl, g1, o1, n1, l1, w, hL⟩
    rw [List.getElem?_map] at hi
    obtain ⟨k, ek, rfl⟩ := Option.map_eq_some_iff.mp hi
    have il := (List.getElem?_eq_some_iff.mp ek).1
    obtain ⟨us, hR, hp1⟩ := w.r
    have ul := pairs_len hp1
    refine ⟨.inl ⟨rfl, _, SqL.of hR⟩, (by show 2 ≤ sizeLine; decide), fun T nT => ⟨R, us, .ref T, rfl, rfl, (same_new nT) _ _ hR, line_lt (by omega), ?_⟩⟩
    obtain ⟨w, kk⟩ := wr_add w nR hd hR hp1 nT (fr k)
    have hL := kk _ _ LR hL
    obtain ⟨a1, a2, a3⟩ := late.2 k (List.mem_of_getElem? ek)
    refine ⟨_, _, ps1 ++ [fr k], rfl, g1.add (fun h => ?_) (by show ("free" : Str) ∈ deeds; decide +kernel) (fun j e => by cases e; exact o1 _ a2), fun s hs => mem_snoc.mpr (.inl (o1 s hs)), fun s hs => ?_, by rw [List.length_append, List.length_singleton]; omega, w, hL⟩
    · rcases n1 _ h with z | ⟨j, hj, e⟩
      · exact a3 z
      · cases e
        exact not_in_take late.1 ek hj
    · rw [take_snoc ek]
      rcases mem_snoc.mp hs with z | z
      · exact (n1 s z).imp id fun ⟨j, hj, e⟩ => ⟨j, mem_snoc.mpr (.inl hj), e⟩
      · exact .inr ⟨k, mem_snoc.mpr (.inr rfl), z⟩
  rintro σ' H6 ⟨y, z, ps1, rfl, g1, o1, n1, l1, w, hL⟩
  rw [List.length_map] at n1 l1
  rw [List.take_length] at n1
  refine q H6 R ps1 w.bt w.dr nR w.r ⟨g1, fun s hs => ?_, fun k hk => o1 _ (done k hk), by omega, fun hc e => ?_⟩
  · rcases n1 s hs with z | ⟨j, hj, rfl⟩
    · exact hf.sub s z
    · exact (late.2 j hj).1
  · obtain ⟨k, hk⟩ := List.exists_mem_of_ne_nil _ hc
    have := o1 _ (done k hk)
    rw [e] at this
    exact nomatch this
def sp__law_some (K : PySem.W.Frag) : Sp := fun vs H Q _ => ∃ (st scr p : Addr) (sh : Int) (cs : List Str), vs = [.ref st, .ref p, .int sh] ∧ DrAt H st scr ∧ H p = some (.lst (cs.map V.str)) ∧ p ≠ st ∧ cs.length ≤ 60 ∧ 0 < sh ∧ sh ≤ 1000 ∧
  ∀ (H' : Hp) (D : Addr) (zs : List Str), Bt st H H' → DrAt H' st scr → H D = none → H' D = some (.lst (zs.map V.str)) → zs.Sublist cs → Q (.ref D) H'
theorem len__law_some {vs : List V} {H : Hp} {Q : VK} {E : XK} (h : sp__law_some K vs H Q E) : vs.length = 3 := by
  obtain ⟨_, _, _, _, _, rfl, _⟩ := h
  rfl
theorem ok__law_some {f : Addr} {fd : FuncData} {f__law_draw : Addr} {fd__law_draw : FuncData} (F : Fun K "_law_some" "_law_some" s__law_some f fd) (T : Gs K mg t_DIGITS t_LETTERS t_LONGEST_NAME a_DEEDS a_MARKS a_RESERVED a_SIGNS a_BadName a_BadPlan a_BadText a_ElseputError a_Plan a_Reader) (c__law_draw : Cal P w K mg base CX0 1 "_law_draw" f__law_draw fd__law_draw ["_law_state_here", "_law_many"] (sp__law_draw K)) : FnOk P w K mg base CX0 2 f fd ["_law_state_here", "_law_row", "_law_share"] (sp__law_some K) := by
  refine F.ok sc__law_some (fun vs H Q E h => len__law_some h) (fun cdv A outer s H vs Q E hr h => ?_)
  obtain ⟨st, scr, p, sh, cs, rfl, hd, hp, hne, lc, s0, s1, q⟩ := h
  refine ⟨_, (pss_one (ps_ret (pe_lc (own := [("_law_item", 3)]) (g := gName 3) (by rfl) sc__law_some.nd (pi_list (v_ 1)) (blkOk_by (N := ["_law_state_here", "_law_row", "_law_share", "_law_item"]) (sc := defScope s__law_some) (by decide +kernel)) (fun _ _ _ _ _ => pg_name (i := 3) sc__law_some.nd rfl (Or.inl rfl)) (fun _ _ _ _ _ => pts_one (pt_c op_gtM (pe_call c__law_draw.G (hr.mono (by first | decide | omega)) rfl c__law_draw.m c__law_draw.kp c__law_draw.b .nil pass0 (pa_cons (v_ 0) (pa_cons (v_ 2) pa_nil))) pe_int)) (fun _ _ _ _ _ => (v_ 3))))), ?_⟩
  refine ⟨p, rfl, ⟨_, SqL.of hp⟩, fun D nD => ?_⟩
  have Ds := hd.ne_new nD
  have Dc := hd.ne_scr nD
  refine lc_it (walk_list (xs := cs.map V.str)) (fun i H' => Bt st H H' ∧ DrAt H' st scr ∧ ∃ zs : List Str, H' D = some (.lst (zs.map V.str)) ∧ zs.Sublist (cs.take i)) ⟨Bt.same (same_new nD), hd.new (same_new nD), [], upd_same, List.Sublist.refl _⟩ (fun _ _ _ h => SqL.of (h.1 _ _ hne hp)) ?_ ?_
  · rintro i v H1 H2 hi ⟨b, d, zs, hD, sb⟩ ⟨rfl, hv⟩
    rw [List.getElem?_map] at hv
    obtain ⟨k, ek, rfl⟩ := Option.map_eq_some_iff.mp hv
    rw [List.length_map] at hi
    refine ⟨rfl, ?_⟩
    refine ⟨st, scr, sh, rfl, d, s0, many_small s0 (by omega), fun r l r0 r1 d2 => ?_⟩
    have hD2 : upd H2 st (.lst l) D = some (.lst (zs.map V.str)) := by rw [upd_ne Ds]; exact hD
    have b2 := b.trans (Bt.st (st := st) (o := .lst l))
    generalize upd H2 st (.lst l) = H3 at d2 hD2 b2 ⊢
    refine ite2 (fun c => ?_) (fun c => ?_)
    · refine ⟨_, hD2, line_lt ?_, fun b o n e => ?_, d2.at Ds Dc, zs ++ [k], ?_, ?_⟩
      · have := sb.length_le
        rw [List.length_take] at this
        rw [List.length_map]
        omega
      · rw [upd_ne (ne_of_none e nD)]
        exact b2 b o n e
      · rw [upd_same, List.map_append]
        rfl
      · rw [take_snoc ek]
        exact sb.append (List.Sublist.refl _)
    · refine ⟨b2, d2, zs, hD2, ?_⟩
      rw [take_snoc ek]
      exact sb.trans (List.sublist_append_left _ _)
  · rintro H1 ⟨b, d, zs, hD, sb⟩
    rw [List.length_map, List.take_length] at sb
    exact q H1 D zs b d nD hD sb
theorem Wild.plan {K : PySem.W.Frag} {H : Hp} {x : Addr} {cs lk kp : List Str} {ps : List Stp} {Q : VK} {E : XK} (w : Wild cs ps) (nc : cs ≠ []) (hn : ∀ z ∈ cs, isName z = true) (l : lk.Nodup ∧ ∀ z ∈ lk, z ∈ cs) (k : kp.Nodup ∧ ∀ z ∈ kp, z ∈ cs) (q : ∀ (H' : Hp), Same H H' → PlAt K H' x ps (among ps lk) (among ps kp) → Q .non H') : PlOut K H x ps lk kp Q E := by
  have ok : ∀ z ∈ planNames ps lk kp, z ∈ cs := fun z hz => by
    unfold planNames at hz
    rcases List.mem_append.mp hz with h | h
    · rcases List.mem_append.mp h with h | h
      · obtain ⟨s, hs, rfl⟩ := List.mem_map.mp h
        exact w.sub s hs
      · exact l.2 z h
    · exact k.2 z h
  unfold PlOut
  rw [bad_none fun z hz => hn z (ok z hz)]
  have g : planFits ps lk kp = true := by
    unfold planFits
    rw [w.fits (w.ne nc), keys_fits w l.1 l.2, keys_fits w k.1 k.2]
    rfl
  show if planFits ps lk kp = true then _ else _
  rw [if_pos g]
  exact q
theorem Wild.names {cs lk kp : List Str} {ps : List Stp} (w : Wild cs ps) (hn : ∀ z ∈ cs, isName z = true ∧ z.length ≤ 12) (l : ∀ z ∈ lk, z ∈ cs) (k : ∀ z ∈ kp, z ∈ cs) : ∀ z ∈ planNames ps lk kp, z.length ≤ 1000 ∧ Asc z := fun z hz => by
  have m : z ∈ cs := by
    unfold planNames at hz
    rcases List.mem_append.mp hz with h | h
    · rcases List.mem_append.mp h with h | h
      · obtain ⟨s, hs, rfl⟩ := List.mem_map.mp h
        exact w.sub s hs
      · exact l z h
    · exact k z h
  have := (hn z m).2
  exact ⟨by omega, isName_asc (hn z m).1⟩
theorem stL_same {K : PySem.W.Frag} {H H' : Hp} {R : Addr} {ps : List Stp} (h : StL K H R ps) (s : Same H H') : StL K H' R ps := by
  obtain ⟨vs, h1, h2⟩ := h
  exact ⟨vs, s.seq h1, pairs_same h2 s⟩
theorem stL_bt {K : PySem.W.Frag} {H H' : Hp} {st R : Addr} {ps : List Stp} (h : ∃ us, H R = some (.lst us) ∧ PairsIn K H us ps) (n : R ≠ st) (hs : ∃ l, H st = some (.lst l)) (s : Bt st H H') : ∃ us, H' R = some (.lst us) ∧ PairsIn K H' us ps := by
  obtain ⟨us, h1, h2⟩ := h
  exact ⟨us, s _ _ n h1, pairs_bt h2 (NT.lst hs) s⟩
end
section
variable {P : Program} {w : World} {K : PySem.W.Frag} {mg : Str → Option Value} {base : Heap}
variable {t_DIGITS t_LETTERS t_LONGEST_NAME : Tok} {a_DEEDS a_MARKS a_RESERVED a_SIGNS a_BadName a_BadPlan a_BadText a_ElseputError a_Plan a_Reader : Addr}
/-! ### _law_same -/
def sp__law_is_int (K : PySem.W.Frag) : Sp := fun vs H Q _ => ∃ i : Int, vs = [.int i] ∧ Q (.bl true) H
theorem len__law_is_int {vs : List V} {H : Hp} {Q : VK} {E : XK} (h : sp__law_is_int K vs H Q E) : vs.length = 1 := by
  obtain ⟨_, rfl, _⟩ := h
  rfl
theorem ok__law_is_int {f : Addr} {fd : FuncData} (F : Fun K "_law_is_int" "_law_is_int" s__law_is_int f fd) (T : Gs K mg t_DIGITS t_LETTERS t_LONGEST_NAME a_DEEDS a_MARKS a_RESERVED a_SIGNS a_BadName a_BadPlan a_BadText a_ElseputError a_Plan a_Reader) : FnOk P w K mg base CX0 1 f fd ["_law_thing"] (sp__law_is_int K) := by
  refine F.ok sc__law_is_int (fun vs H Q E h => len__law_is_int h) (fun cdv A outer s H vs Q E hr h => ?_)
  obtain ⟨i, rfl, q⟩ := h
  refine ⟨_, (pss_one (ps_ret (pe_andM (pe_callB (isiK K) (by rfl) T.z_isinstance (by decide +kernel) (pa_cons (v_ 0) (pa_cons (pe_bltn (v := .ty "int") (u := .type "int") (by rfl) T.z_int (by decide +kernel) rfl) pa_nil))) (pe_one (pe_notM (pe_callB (isiK K) (by rfl) T.z_isinstance (by decide +kernel) (pa_cons (v_ 0) (pa_cons (pe_bltn (v := .ty "bool") (u := .type "bool") (by rfl) T.z_bool (by decide +kernel) rfl) pa_nil)))))))), ?_⟩
  refine ⟨_, _, _, _, true, rfl, .ty _, .base (.int i), kit_ty (by decide +kernel), ?_⟩
  exact ⟨_, _, _, _, false, rfl, .ty _, .base (.int i), kit_ty (by decide +kernel), q⟩
def Fl (x : V) : Prop := (∃ i : Int, x = .int i) ∨ (∃ z : Str, x = .str z) ∨ (∃ b : Bool, x = .bl b) ∨ x = .non
def SameV (K : PySem.W.Frag) (H : Hp) : Nat → V → V → Prop
  | 0, _, _ => False
  | n + 1, x, y => (x = y ∧ Fl y) ∨ (∃ (p q : Addr) (xs ys : List V), x = .ref p ∧ y = .ref q ∧ SqT K H p xs ∧ SqT K H q ys ∧ xs.length = ys.length ∧ ys.length ≤ 1000 ∧ ∀ (i : Nat) (a b : V), xs[i]? = some a → ys[i]? = some b → SameV K H n a b) ∨
      (∃ (p q : Addr) (xs ys : List V), x = .ref p ∧ y = .ref q ∧ H p = some (.lst xs) ∧ H q = some (.lst ys) ∧ xs.length = ys.length ∧ ys.length ≤ 1000 ∧ ∀ (i : Nat) (a b : V), xs[i]? = some a → ys[i]? = some b → SameV K H n a b) ∨
      ∃ (p q : Addr) (ks ls : List (Key × V)), x = .ref p ∧ y = .ref q ∧ H p = some (.dK ks) ∧ H q = some (.dK ls) ∧ ks.length = ls.length ∧ n ≠ 0 ∧ ∀ (i : Nat) (k : Key) (v : V), ls[i]? = some (k, v) → ∃ u : V, Fl u ∧ valV ls k = some u ∧ valV ks k = some u
theorem same_fl {H : Hp} {n : Nat} {x : V} (h : Fl x) : SameV K H (n + 1) x x := .inl ⟨rfl, h⟩
def spSame (n : Nat) : PySem.W.Frag → Sp := fun K vs H Q _ => ∃ x y : V, vs = [x, y] ∧ SameV K H n x y ∧ Q (.bl true) H
theorem len_same {n : Nat} {vs : List V} {H : Hp} {Q : VK} {E : XK} (h : spSame n K vs H Q E) : vs.length = 2 := by
  obtain ⟨_, _, rfl, _⟩ := h
  rfl
theorem same_step {n k : Nat} {f : Addr} {fd : FuncData} {f__law_is_int : Addr} {fd__law_is_int : FuncData} (F : Fun K "_law_same" "_law_same" s__law_same f fd) (T : Gs K mg t_DIGITS t_LETTERS t_LONGEST_NAME a_DEEDS a_MARKS a_RESERVED a_SIGNS a_BadName a_BadPlan a_BadText a_ElseputError a_Plan a_Reader)
    (c__law_is_int : Cal P w K mg base CX0 1 "_law_is_int" f__law_is_int fd__law_is_int ["_law_thing"] (sp__law_is_int K)) (c__law_same : Cal P w K mg base CX0 k "_law_same" f fd ["_law_actual", "_law_due_here"] (spSame n K)) (hk : 1 ≤ k) : FnOk P w K mg base CX0 (k + 1) f fd ["_law_actual", "_law_due_here"] (spSame (n + 1) K) := by
  refine F.ok sc__law_same (fun vs H Q E h => len_same h) (fun cdv A outer s H vs Q E hr h => ?_)
  obtain ⟨x, y, rfl, h, q⟩ := h
  refine ⟨_, (pss_cons (ps_if (pt_c op_isM (v_ 1) pe_non) (pss_one (ps_ret (pe_c op_isM (v_ 0) pe_non))) pss_nil) (pss_cons (ps_if (pt_c op_isM (v_ 1) pe_bl) (pss_one (ps_ret (pe_c op_isM (v_ 0) pe_bl))) pss_nil) (pss_cons (ps_if (pt_c op_isM (v_ 1) pe_bl) (pss_one (ps_ret (pe_c op_isM (v_ 0) pe_bl))) pss_nil) (pss_cons (ps_if (pt_t K (pe_callB (isiK K) (by rfl) T.z_isinstance (by decide +kernel) (pa_cons (v_ 1) (pa_cons (pe_bltn (v := .ty "int") (u := .type "int") (by rfl) T.z_int (by decide +kernel) rfl) pa_nil)))) (pss_one (ps_ret (pe_andM (pe_call c__law_is_int.G (hr.mono (by first | decide | omega)) rfl c__law_is_int.m c__law_is_int.kp c__law_is_int.b .nil pass0 (pa_cons (v_ 0) pa_nil)) (pe_one (pe_c (eqK K hr.units) (v_ 0) (v_ 1)))))) pss_nil) (pss_cons (ps_if (pt_t K (pe_callB (isiK K) (by rfl) T.z_isinstance (by decide +kernel) (pa_cons (v_ 1) (pa_cons (pe_bltn (v := .ty "str") (u := .type "str") (by rfl) T.z_str (by decide +kernel) rfl) pa_nil)))) (pss_one (ps_ret (pe_andM (pe_callB (isiK K) (by rfl) T.z_isinstance (by decide +kernel) (pa_cons (v_ 0) (pa_cons (pe_bltn (v := .ty "str") (u := .type "str") (by rfl) T.z_str (by decide +kernel) rfl) pa_nil))) (pe_one (pe_c (eqK K hr.units) (v_ 0) (v_ 1)))))) pss_nil) (pss_cons (ps_if (pt_t K (pe_callB (isiK K) (by rfl) T.z_isinstance (by decide +kernel) (pa_cons (v_ 1) (pa_cons (pe_bltn (v := .ty "dict") (u := .type "dict") (by rfl) T.z_dict (by decide +kernel) rfl) pa_nil)))) (pss_cons (ps_if (PW.pt (pw_or (pt_not (pt_t K (pe_callB (isiK K) (by rfl) T.z_isinstance (by decide +kernel) (pa_cons (v_ 0) (pa_cons (pe_bltn (v := .ty "dict") (u := .type "dict") (by rfl) T.z_dict (by decide +kernel) rfl) pa_nil))))) (pw_or1 (pt_c (neK K hr.units) (pe_callB (lenK K) (by rfl) T.z_len PySem.boot_len (pa_cons (v_ 0) pa_nil)) (pe_callB (lenK K) (by rfl) T.z_len PySem.boot_len (pa_cons (v_ 1) pa_nil)))))) (pss_one (ps_ret pe_bl)) pss_nil) (pss_cons (ps_lock (ps_for PassesOwn.never rfl (pi_keys (v_ 1)) (pg_name (i := 3) sc__law_same.nd rfl (.inl rfl)) (pss_one (ps_if (PW.pt (pw_or (pt_cmp (pc_dnotin (hu_of hr) (v_ 3) (v_ 0))) (pw_or1 (pt_not (pt_t K (pe_call c__law_same.G (hr.mono (by first | decide | omega)) rfl c__law_same.m c__law_same.kp c__law_same.b .nil pass0 (pa_cons (pe_dget (hu_of hr) (v_ 0) (v_ 3) (fun _ _ => rfl)) (pa_cons (pe_dget (hu_of hr) (v_ 1) (v_ 3) (fun _ _ => rfl)) pa_nil)))))))) (pss_one (ps_ret pe_bl)) pss_nil)))) (pss_one (ps_ret pe_bl)))) pss_nil) (pss_cons (ps_if (PW.pt (pw_and (pt_t K (pe_callB (isiK K) (by rfl) T.z_isinstance (by decide +kernel) (pa_cons (v_ 1) (pa_cons (pe_bltn (v := .ty "list") (u := .type "list") (by rfl) T.z_list (by decide +kernel) rfl) pa_nil)))) (pw_and1 (pt_not (pt_t K (pe_callB (isiK K) (by rfl) T.z_isinstance (by decide +kernel) (pa_cons (v_ 0) (pa_cons (pe_bltn (v := .ty "list") (u := .type "list") (by rfl) T.z_list (by decide +kernel) rfl) pa_nil)))))))) (pss_one (ps_ret pe_bl)) pss_nil) (pss_cons (ps_if (PW.pt (pw_and (pt_t K (pe_callB (isiK K) (by rfl) T.z_isinstance (by decide +kernel) (pa_cons (v_ 1) (pa_cons (pe_bltn (v := .ty "tuple") (u := .type "tuple") (by rfl) T.z_tuple (by decide +kernel) rfl) pa_nil)))) (pw_and1 (pt_not (pt_t K (pe_callB (isiK K) (by rfl) T.z_isinstance (by decide +kernel) (pa_cons (v_ 0) (pa_cons (pe_bltn (v := .ty "tuple") (u := .type "tuple") (by rfl) T.z_tuple (by decide +kernel) rfl) pa_nil)))))))) (pss_one (ps_ret pe_bl)) pss_nil) (pss_cons (ps_if (pt_c (neK K hr.units) (pe_callB (lenK K) (by rfl) T.z_len PySem.boot_len (pa_cons (v_ 0) pa_nil)) (pe_callB (lenK K) (by rfl) T.z_len PySem.boot_len (pa_cons (v_ 1) pa_nil))) (pss_one (ps_ret pe_bl)) pss_nil) (pss_cons (ps_for PassesOwn.never rfl (pi_range1 rfl T.z_range (pa_cons (pe_callB (lenK K) (by rfl) T.z_len PySem.boot_len (pa_cons (v_ 1) pa_nil)) pa_nil)) (pg_name (i := 2) sc__law_same.nd rfl (.inl rfl)) (pss_one (ps_if (pt_not (pt_t K (pe_call c__law_same.G (hr.mono (by first | decide | omega)) rfl c__law_same.m c__law_same.kp c__law_same.b .nil pass0 (pa_cons (e_x K (v_ 0) (v_ 2)) (pa_cons (e_x K (v_ 1) (v_ 2)) pa_nil))))) (pss_one (ps_ret pe_bl)) pss_nil))) (pss_one (ps_ret pe_bl)))))))))))), ?_⟩
  rcases h with ⟨rfl, ⟨i, rfl⟩ | ⟨z, rfl⟩ | ⟨c, rfl⟩ | rfl⟩ | ⟨a, b, xs, ys, rfl, rfl, ha, hb, hl, h1, hs⟩ | ⟨a, b, xs, ys, rfl, rfl, ha, hb, hl, h1, hs⟩ | ⟨a, b, ks, ls, rfl, rfl, ha, hb, hl, hn, hs⟩
  · refine ⟨_, _, _, _, true, rfl, .ty _, .base (.int i), kit_ty (by decide +kernel), ?_⟩
    refine ⟨i, rfl, ?_⟩
    have e : decide (i = i) = true := decide_eq_true rfl
    rw [← e] at q
    exact q
  · refine ⟨_, _, _, _, false, rfl, .ty _, .base (.str z), kit_ty (by decide +kernel), ?_⟩
    refine ⟨_, _, _, _, true, rfl, .ty _, .base (.str z), kit_ty (by decide +kernel), ?_⟩
    refine ⟨_, _, _, _, true, rfl, .ty _, .base (.str z), kit_ty (by decide +kernel), ?_⟩
    have e : decide (z = z) = true := decide_eq_true rfl
    rw [← e] at q
    exact q
  · cases c with
    | true => exact q
    | false => exact q
  · exact q
  · have tb := ty_tup hb
    refine ⟨_, _, _, _, false, rfl, .ty _, tb, kit_ty (by decide +kernel), ?_⟩
    refine ⟨_, _, _, _, false, rfl, .ty _, tb, kit_ty (by decide +kernel), ?_⟩
    refine ⟨_, _, _, _, false, rfl, .ty _, tb, kit_ty (by decide +kernel), ?_⟩
    refine ⟨_, _, _, _, false, rfl, .ty _, tb, kit_ty (by decide +kernel), ?_⟩
    refine ⟨_, _, _, _, true, rfl, .ty _, tb, kit_ty (by decide +kernel), ?_⟩
    refine ⟨_, _, _, _, true, rfl, .ty _, ty_tup ha, kit_ty (by decide +kernel), ?_⟩
    refine .inl ⟨_, .inr ha, .inl ⟨_, .inr hb, ?_⟩⟩
    refine ite2 (fun e => ?_) (fun _ => ?_)
    · exact absurd e (by rw [hl]; simp)
    refine .inl ⟨_, .inr hb, _, rfl, by omega, by omega, ?_⟩
    refine for_range (lo := 0) (n := ys.length) (fun i σ' H' => H' = H ∧ ∃ y, σ' = [some (.ref a), some (.ref b), y, none]) ⟨rfl, _, rfl⟩ ?_ ?_
    · rintro i σ' H' hi ⟨rfl, y, rfl⟩
      have ex := List.getElem?_eq_getElem (l := xs) (i := i) (by omega)
      have ey := List.getElem?_eq_getElem (l := ys) hi
      refine ⟨_, .inr ha, xs[i], ?_, _, .inr hb, ys[i], ?_, _, _, rfl, hs i _ _ ex ey, ?_⟩
      · rw [show (0 : Int) + i = ((i : Nat) : Int) by omega]
        exact atI_nat ex
      · rw [show (0 : Int) + i = ((i : Nat) : Int) by omega]
        exact atI_nat ey
      exact ⟨rfl, _, rfl⟩
    · rintro σ' H' ⟨rfl, y, rfl⟩
      exact q
  · have tb : TyX K H (.ref b) (.type "list") := .base (.lst hb)
    refine ⟨_, _, _, _, false, rfl, .ty _, tb, kit_ty (by decide +kernel), ?_⟩
    refine ⟨_, _, _, _, false, rfl, .ty _, tb, kit_ty (by decide +kernel), ?_⟩
    refine ⟨_, _, _, _, false, rfl, .ty _, tb, kit_ty (by decide +kernel), ?_⟩
    refine ⟨_, _, _, _, true, rfl, .ty _, tb, kit_ty (by decide +kernel), ?_⟩
    refine ⟨_, _, _, _, true, rfl, .ty _, .base (.lst ha), kit_ty (by decide +kernel), ?_⟩
    refine ⟨_, _, _, _, false, rfl, .ty _, tb, kit_ty (by decide +kernel), ?_⟩
    refine .inl ⟨_, .inl (SqL.of ha), .inl ⟨_, .inl (SqL.of hb), ?_⟩⟩
    refine ite2 (fun e => ?_) (fun _ => ?_)
    · exact absurd e (by rw [hl]; simp)
    refine .inl ⟨_, .inl (SqL.of hb), _, rfl, by omega, by omega, ?_⟩
    refine for_range (lo := 0) (n := ys.length) (fun i σ' H' => H' = H ∧ ∃ y, σ' = [some (.ref a), some (.ref b), y, none]) ⟨rfl, _, rfl⟩ ?_ ?_
    · rintro i σ' H' hi ⟨rfl, y, rfl⟩
      have ex := List.getElem?_eq_getElem (l := xs) (i := i) (by omega)
      have ey := List.getElem?_eq_getElem (l := ys) hi
      refine ⟨_, .inl (SqL.of ha), xs[i], ?_, _, .inl (SqL.of hb), ys[i], ?_, _, _, rfl, hs i _ _ ex ey, ?_⟩
      · rw [show (0 : Int) + i = ((i : Nat) : Int) by omega]
        exact atI_nat ex
      · rw [show (0 : Int) + i = ((i : Nat) : Int) by omega]
        exact atI_nat ey
      exact ⟨rfl, _, rfl⟩
    · rintro σ' H' ⟨rfl, y, rfl⟩
      exact q
  · have tb : TyX K H (.ref b) (.type "dict") := .base (.dK hb)
    refine ⟨_, _, _, _, false, rfl, .ty _, tb, kit_ty (by decide +kernel), ?_⟩
    refine ⟨_, _, _, _, false, rfl, .ty _, tb, kit_ty (by decide +kernel), ?_⟩
    refine ⟨_, _, _, _, true, rfl, .ty _, tb, kit_ty (by decide +kernel), ?_⟩
    refine ⟨_, _, _, _, true, rfl, .ty _, .base (.dK ha), kit_ty (by decide +kernel), ?_⟩
    refine .inr ⟨_, ha, .inr ⟨_, hb, ?_⟩⟩
    refine ite2 (fun e => absurd e (by rw [hl]; simp)) (fun _ => ?_)
    refine ⟨b, .dK ls, hb, True.intro, fun od => ?_⟩
    refine ⟨b, od, rfl, .inl ⟨ls, upd_same, ?_⟩⟩
    have rb : Rd (upd H b (.frz od (.dK ls))) b (.dK ls) := .inr ⟨od, upd_same⟩
    have ra : ∃ ks', ks' = ks ∧ Rd (upd H b (.frz od (.dK ls))) a (.dK ks') := by
      by_cases e : a = b
      · rw [e, hb] at ha
        cases ha
        exact ⟨_, rfl, e ▸ rb⟩
      · exact ⟨ks, rfl, .inl (by rw [upd_ne e]; exact ha)⟩
    obtain ⟨_, rfl, ra⟩ := ra
    refine for_it walk_keys (fun i σ' H' => H' = upd H b (.frz od (.dK ls)) ∧ ∃ y, σ' = [some (.ref a), some (.ref b), none, y]) ⟨rfl, _, rfl⟩ (fun i σ' H' _ h => by rw [h.1]; exact upd_same) ?_ ?_
    · rintro i x σ' H2 H3 hi ⟨rfl, y, rfl⟩ ⟨rfl, k, v, hk, rfl⟩
      obtain ⟨m, hm, h1, h2⟩ := hs i k v hk
      have ga : DGet (upd H b (.frz od (.dK ls))) a (kV k) (some m) := .inl ⟨_, k, ra, rfl, h2.symm⟩
      have gb : DGet (upd H b (.frz od (.dK ls))) b (kV k) (some m) := .inl ⟨_, k, rb, rfl, h1.symm⟩
      refine ⟨a, _, rfl, ga, _, rfl, ?_⟩
      refine ⟨a, _, rfl, ga, b, _, rfl, gb, _, _, rfl, ?_, ?_⟩
      · cases n with
        | zero => exact absurd rfl hn
        | succ n => exact same_fl hm
      · exact ⟨rfl, _, rfl⟩
    · rintro σ' H2 ⟨rfl, y, rfl⟩
      refine ⟨upd_same, ?_⟩
      rw [upd_upd, upd_id hb]
      exact q
theorem same_all {f : Addr} {fd : FuncData} {f__law_is_int : Addr} {fd__law_is_int : FuncData} (F : Fun K "_law_same" "_law_same" s__law_same f fd) (T : Gs K mg t_DIGITS t_LETTERS t_LONGEST_NAME a_DEEDS a_MARKS a_RESERVED a_SIGNS a_BadName a_BadPlan a_BadText a_ElseputError a_Plan a_Reader)
    (c__law_is_int : Cal P w K mg base CX0 1 "_law_is_int" f__law_is_int fd__law_is_int ["_law_thing"] (sp__law_is_int K)) (b : Binds K fd ["_law_actual", "_law_due_here"] []) (kp : PySem.W.keepIn K (.ref f) = true) (m : mg "_law_same" = some (.ref f)) :
    ∀ n : Nat, FnOk P w K mg base CX0 (n + 2) f fd ["_law_actual", "_law_due_here"] (spSame n K)
  | 0 => ⟨fun _ _ _ _ h => len_same h, by
    intro A outer s H args us vs Q E _ _ _ _ h
    obtain ⟨_, _, _, h, _⟩ := h
    exact False.elim h⟩
  | n + 1 => same_step F T c__law_is_int ⟨same_all F T c__law_is_int b kp m n, b, kp, m⟩ (by omega)
def sp__law_same : PySem.W.Frag → Sp := spSame 24
theorem ok__law_same {f : Addr} {fd : FuncData} {f__law_is_int : Addr} {fd__law_is_int : FuncData} (F : Fun K "_law_same" "_law_same" s__law_same f fd) (T : Gs K mg t_DIGITS t_LETTERS t_LONGEST_NAME a_DEEDS a_MARKS a_RESERVED a_SIGNS a_BadName a_BadPlan a_BadText a_ElseputError a_Plan a_Reader)
    (c__law_is_int : Cal P w K mg base CX0 1 "_law_is_int" f__law_is_int fd__law_is_int ["_law_thing"] (sp__law_is_int K)) (b : Binds K fd ["_law_actual", "_law_due_here"] []) (kp : PySem.W.keepIn K (.ref f) = true) (m : mg "_law_same" = some (.ref f)) :
    FnOk P w K mg base CX0 26 f fd ["_law_actual", "_law_due_here"] (sp__law_same K) := same_all F T c__law_is_int b kp m 24
theorem same_int {H : Hp} {n : Nat} (i : Int) : SameV K H (n + 1) (.int i) (.int i) := same_fl (.inl ⟨i, rfl⟩)
theorem same_str {H : Hp} {n : Nat} (z : Str) : SameV K H (n + 1) (.str z) (.str z) := same_fl (.inr (.inl ⟨z, rfl⟩))
theorem same_bl {H : Hp} {n : Nat} (b : Bool) : SameV K H (n + 1) (.bl b) (.bl b) := same_fl (.inr (.inr (.inl ⟨b, rfl⟩)))
theorem same_tupN {H : Hp} {t u : Addr} {xs ys : List V} {n : Nat} (h1 : SqT K H t xs) (h2 : SqT K H u ys) (hl : xs.length = ys.length) (h4 : ys.length ≤ 1000) (h : ∀ (i : Nat) (a b : V), xs[i]? = some a → ys[i]? = some b → SameV K H n a b) : SameV K H (n + 1) (.ref t) (.ref u) :=
  .inr (.inl ⟨t, u, _, _, rfl, rfl, h1, h2, hl, h4, h⟩)
theorem same_two {H : Hp} {t u : Addr} {w : Str} {x y : V} {m : Nat} (h1 : SqT K H t [.str w, x]) (h2 : SqT K H u [.str w, y]) (h : SameV K H (m + 1) x y) : SameV K H (m + 2) (.ref t) (.ref u) := by
  refine same_tupN h1 h2 rfl (by show 2 ≤ 1000; decide) fun i a b ha hb => ?_
  match i, ha, hb with
  | 0, ha, hb => cases ha; cases hb; exact same_str _
  | 1, ha, hb => cases ha; cases hb; exact h
theorem same_strs {H : Hp} {t u : Addr} {zs : List Str} {n : Nat} (h1 : SqT K H t (zs.map V.str)) (h2 : SqT K H u (zs.map V.str)) (hl : zs.length ≤ 1000) : SameV K H (n + 2) (.ref t) (.ref u) := by
  refine same_tupN h1 h2 rfl (by rw [List.length_map]; exact hl) fun i a b ha hb => ?_
  rw [ha] at hb
  cases hb
  rw [List.getElem?_map] at ha
  obtain ⟨z, hz, rfl⟩ := Option.map_eq_some_iff.mp ha
  exact same_str z
end
section
variable {P : Program} {w : World} {K : PySem.W.Frag} {mg : Str → Option Value} {base : Heap}
variable {t_DIGITS t_LETTERS t_LONGEST_NAME : Tok} {a_DEEDS a_MARKS a_RESERVED a_SIGNS a_BadName a_BadPlan a_BadText a_ElseputError a_Plan a_Reader : Addr}
theorem letters_cps : letters.cps.toList = El.LT := by decide +kernel
theorem digits_cps : ("0123456789" : Str).cps.toList = DG := by decide +kernel
theorem at_head {z : Str} (h : 0 < z.length) : atI z.cps.toList 0 = some (z.cps.toList.headD 0) := by
  have h2 := len_cps z
  cases e : z.cps.toList with
  | nil => rw [e] at h2; rw [← h2] at h; exact absurd h (by decide)
  | cons a r => exact atI_nat (j := 0) rfl
theorem at_last {z : Str} (h : 0 < z.length) : atI z.cps.toList (-1) = some (z.cps.toList.getLastD 0) := by
  have h2 := len_cps z
  generalize z.cps.toList = xs at h2 ⊢
  have hp : 0 < xs.length := by omega
  unfold atI ixN
  rw [if_neg (by decide), if_pos (by omega)]
  show xs[((-1 : Int) + (xs.length : Int)).toNat]? = _
  rw [show ((-1 : Int) + (xs.length : Int)).toNat = xs.length - 1 by omega, ← List.getLast?_eq_getElem?]
  cases xs with
  | nil => exact absurd hp (by decide)
  | cons a r => rw [List.getLast?_cons, List.getLastD_cons, List.getLastD_eq_getLast?]
theorem inV_strC {z : Str} : ∀ {xs : List Str}, inV (.str z) (xs.map V.str) = decide (z.cps.toList ∈ xs.map (·.cps.toList))
  | [] => rfl
  | a :: r => by
    have ih := inV_strC (z := z) (xs := r)
    unfold inV at ih ⊢
    rw [List.map_cons, List.any_cons, ih, List.map_cons]
    have : eqV (.str a) (.str z) = decide (z.cps.toList = a.cps.toList) := by
      show (a == z) = _
      rw [Bool.eq_iff_iff, beq_iff_eq, decide_eq_true_iff, str_eq, eq_comm]
    rw [this, Bool.eq_iff_iff, Bool.or_eq_true, decide_eq_true_iff, decide_eq_true_iff, decide_eq_true_iff, List.mem_cons]
theorem one_eq {c d : Nat} {s : Str} (h : s.cps.toList = [d]) : ((⟨#[c]⟩ : Str) = s) ↔ c = d := by
  rw [str_eq, h, one_cps]
  simp
/-! ### run_end -/
def runN (f : Nat → Bool) (l : List Nat) : Nat := (l.takeWhile f).length
theorem runN_le (f : Nat → Bool) (l : List Nat) : runN f l ≤ l.length := (List.takeWhile_sublist f).length_le
def sp_run_end (K : PySem.W.Frag) : Sp := fun vs H Q _ => ∃ (z cs : Str) (a : Nat), vs = [.str z, .int a, .str cs] ∧ a ≤ z.length ∧ z.length ≤ 20000 ∧ Q (.int ((a + runN (fun c => decide (c ∈ cs.cps.toList)) (z.cps.toList.drop a) : Nat) : Int)) H
theorem len_run_end {vs : List V} {H : Hp} {Q : VK} {E : XK} (h : sp_run_end K vs H Q E) : vs.length = 3 := by
  obtain ⟨_, _, _, rfl, _⟩ := h
  rfl
theorem drop_cons {z : Str} {e : Nat} (h : e < z.length) : ∃ c, z.cps.toList[e]? = some c ∧ z.cps.toList.drop e = c :: z.cps.toList.drop (e + 1) := by
  have hl : e < z.cps.toList.length := by rw [len_cps]; exact h
  exact ⟨_, List.getElem?_eq_getElem hl, List.drop_eq_getElem_cons hl⟩
theorem ok_run_end {f : Addr} {fd : FuncData} (F : Fun K "run_end" "run_end" s_run_end f fd) (T : Gs K mg t_DIGITS t_LETTERS t_LONGEST_NAME a_DEEDS a_MARKS a_RESERVED a_SIGNS a_BadName a_BadPlan a_BadText a_ElseputError a_Plan a_Reader) : FnOk P w K mg base CX0 1 f fd ["line", "at", "characters"] (sp_run_end K) := by
  refine F.ok sc_run_end (fun vs H Q E h => len_run_end h) (fun cdv A outer s H vs Q E hr h => ?_)
  obtain ⟨z, cs, a, rfl, ha, hz, q⟩ := h
  refine ⟨_, (pss_cons (ps_set (i := 3) sc_run_end.nd rfl (.inl rfl) (v_ 1)) (pss_cons (ps_while PassesOwn.never (PW.pt (pw_and (pt_c op_ltM (v_ 3) (pe_callB (lenK K) (by rfl) T.z_len PySem.boot_len (pa_cons (v_ 0) pa_nil))) (pw_and1 (pt_c (inK K) (e_x K (v_ 0) (v_ 3)) (v_ 2))))) (pss_one (ps_aug (i := 3) sc_run_end.nd rfl (.inl rfl) pe_int ip_add))) (pss_one (ps_ret (v_ 3))))), ?_⟩
  generalize hf : (fun c => decide (c ∈ cs.cps.toList)) = f at q
  refine ⟨fun m σ' H' => ∃ e : Nat, m = z.length - e ∧ a ≤ e ∧ e ≤ z.length ∧ σ' = [some (.str z), some (.int a), some (.str cs), some (.int e)] ∧ H' = H ∧ a + runN f (z.cps.toList.drop a) = e + runN f (z.cps.toList.drop e), ⟨_, a, rfl, Nat.le_refl _, ha, rfl, rfl, rfl⟩, ?_⟩
  rintro m σ' H' ⟨e, rfl, h1, h2, rfl, rfl, he⟩
  refine ⟨line_of (by omega), ?_⟩
  have stop : runN f (z.cps.toList.drop e) = 0 → Q (.int e) H' := fun h => by
    rw [he, h, Nat.add_zero] at q
    exact q
  refine ite2 (fun e1 => ?_) (fun e1 => ?_)
  · have e1 : (e : Int) < z.length := of_decide_eq_true e1
    obtain ⟨c, hc, hd⟩ := drop_cons (z := z) (e := e) (by omega)
    refine ⟨line_of (by omega), c, atI_nat hc, c, rfl, ?_⟩
    have hfc : decide (c ∈ cs.cps.toList) = f c := by rw [← hf]
    cases hb : f c with
    | true =>
      have : decide (c ∈ cs.cps.toList) = true := hfc.trans hb
      simp only [this, if_true]
      refine ⟨fun σ2 H2 => ∃ m', m' < z.length - e ∧ ∃ e : Nat, m' = z.length - e ∧ a ≤ e ∧ e ≤ z.length ∧ σ2 = [some (.str z), some (.int a), some (.str cs), some (.int e)] ∧ H2 = H' ∧ a + runN f (z.cps.toList.drop a) = e + runN f (z.cps.toList.drop e), fun _ _ h => h, ?_⟩
      refine ⟨_, rfl, _, _, rfl, rfl, _, (by omega : z.length - (e + 1) < z.length - e), e + 1, rfl, by omega, by omega, ?_, rfl, ?_⟩
      · rfl
      · rw [he, hd]
        unfold runN
        rw [List.takeWhile_cons, hb, if_pos rfl, List.length_cons]
        omega
    | false =>
      have : decide (c ∈ cs.cps.toList) = false := hfc.trans hb
      simp only [this, Bool.false_eq_true, if_false]
      refine stop ?_
      rw [hd]
      unfold runN
      rw [List.takeWhile_cons, hb]
      rfl
  · have e1 : ¬ (e : Int) < z.length := of_decide_eq_false (Bool.eq_false_iff.mpr e1)
    refine stop ?_
    have h3 : (z.cps.toList.drop e).length = 0 := by
      rw [List.length_drop, len_cps]
      omega
    have := runN_le f (z.cps.toList.drop e)
    omega

/-! ### token_end -/
theorem cutS_mid {z : Str} {a b : Nat} (h : a ≤ b) : (cutS z (some (a : Int)) (some (b : Int))).cps.toList = (z.cps.toList.drop a).take (b - a) := by
  unfold cutS
  rw [List.toList_toArray, HT.sIx_nat, HT.sIx_nat]
  by_cases ha : a ≤ z.length
  · rw [Nat.min_eq_left ha, List.take_eq_take_iff, List.length_drop, len_cps]
    omega
  · rw [Nat.min_eq_right (by omega : z.length ≤ a), List.drop_of_length_le (by rw [len_cps]; exact Nat.le_refl _), List.drop_of_length_le (by rw [len_cps]; omega), List.take_nil, List.take_nil]
theorem tokLen_run (c : Nat) (r : List Nat) : tokLen (c :: r) = if isL c then runN isL (c :: r) else if isD c then runN isD (c :: r) else if c = 45 then (if runN isD r = 0 then 0 else 1 + runN isD r) else if inSM ((c :: r).take 2) then ((c :: r).take 2).length else if inSM [c] then 1 else 0 := rfl
theorem isL_fn : (fun c => decide (c ∈ letters.cps.toList)) = isL := funext fun c => by rw [letters_cps]; rfl
theorem isD_fn : (fun c => decide (c ∈ ("0123456789" : Str).cps.toList)) = isD := funext fun c => by rw [digits_cps]; rfl
def sp_token_end (K : PySem.W.Frag) : Sp := fun vs H Q _ => ∃ (z : Str) (a : Nat), vs = [.str z, .int a] ∧ a < z.length ∧ z.length ≤ 20000 ∧ ∀ H', Same H H' → Q (.int ((a + tokLen (z.cps.toList.drop a) : Nat) : Int)) H'
theorem len_token_end {vs : List V} {H : Hp} {Q : VK} {E : XK} (h : sp_token_end K vs H Q E) : vs.length = 2 := by
  obtain ⟨_, _, rfl, _⟩ := h
  rfl
theorem sg_in {z : Str} : inV (.str z) [.str "<", .str "<=", .str "==", .str "!=", .str ">=", .str ">"] = decide (z.cps.toList ∈ SG) := by
  refine (inV_strC (z := z) (xs := ["<", "<=", "==", "!=", ">=", ">"])).trans ?_
  rw [show (["<", "<=", "==", "!=", ">=", ">"] : List Str).map (·.cps.toList) = SG by decide +kernel]
theorem mk_in {z : Str} : inV (.str z) [.str "(", .str ")", .str ",", .str ";", .str ":"] = decide (z.cps.toList ∈ MK) := by
  refine (inV_strC (z := z) (xs := ["(", ")", ",", ";", ":"])).trans ?_
  rw [show (["(", ")", ",", ";", ":"] : List Str).map (·.cps.toList) = MK by decide +kernel]
theorem ok_token_end {f : Addr} {fd : FuncData} {f_run_end : Addr} {fd_run_end : FuncData} (F : Fun K "token_end" "token_end" s_token_end f fd) (T : Gs K mg t_DIGITS t_LETTERS t_LONGEST_NAME a_DEEDS a_MARKS a_RESERVED a_SIGNS a_BadName a_BadPlan a_BadText a_ElseputError a_Plan a_Reader) (c_run_end : Cal P w K mg base CX0 1 "run_end" f_run_end fd_run_end ["line", "at", "characters"] (sp_run_end K)) : FnOk P w K mg base CX0 2 f fd ["line", "at"] (sp_token_end K) := by
  refine F.ok sc_token_end (fun vs H Q E h => len_token_end h) (fun cdv A outer s H vs Q E hr h => ?_)
  obtain ⟨z, a, rfl, ha, hz, q⟩ := h
  refine ⟨_, (pss_cons (ps_if (pt_c (inK K) (e_x K (v_ 0) (v_ 1)) (pe_glob (v := .str "abcdefghijklmnopqrstuvwxyz") rfl T.g_LETTERS ⟨_, rfl⟩)) (pss_one (ps_ret (pe_call c_run_end.G (hr.mono (by first | decide | omega)) rfl c_run_end.m c_run_end.kp c_run_end.b .nil pass0 (pa_cons (v_ 0) (pa_cons (v_ 1) (pa_cons (pe_glob (v := .str "abcdefghijklmnopqrstuvwxyz") rfl T.g_LETTERS ⟨_, rfl⟩) pa_nil)))))) pss_nil) (pss_cons (ps_if (pt_c (inK K) (e_x K (v_ 0) (v_ 1)) (pe_glob (v := .str "0123456789") rfl T.g_DIGITS ⟨_, rfl⟩)) (pss_one (ps_ret (pe_call c_run_end.G (hr.mono (by first | decide | omega)) rfl c_run_end.m c_run_end.kp c_run_end.b .nil pass0 (pa_cons (v_ 0) (pa_cons (v_ 1) (pa_cons (pe_glob (v := .str "0123456789") rfl T.g_DIGITS ⟨_, rfl⟩) pa_nil)))))) pss_nil) (pss_cons (ps_if (pt_c (eqK K hr.units) (e_x K (v_ 0) (v_ 1)) pe_str) (pss_cons (ps_set (i := 3) sc_token_end.nd rfl (.inl rfl) (pe_call c_run_end.G (hr.mono (by first | decide | omega)) rfl c_run_end.m c_run_end.kp c_run_end.b .nil pass0 (pa_cons (v_ 0) (pa_cons (pe_op (addK K) (v_ 1) pe_int) (pa_cons (pe_glob (v := .str "0123456789") rfl T.g_DIGITS ⟨_, rfl⟩) pa_nil))))) (pss_one (ps_ret (pe_ifExp (pt_c op_gtM (v_ 3) (pe_op (addK K) (v_ 1) pe_int)) (v_ 3) (v_ 1))))) pss_nil) (pss_cons (ps_for PassesOwn.never rfl (pi_tup (pe_tup (pa_cons (pe_slice (slK K) (v_ 0) (po_some (v_ 1)) (po_some (pe_op (addK K) (v_ 1) pe_int))) (pa_cons (e_x K (v_ 0) (v_ 1)) pa_nil)))) (pg_name (i := 2) sc_token_end.nd rfl (.inl rfl)) (pss_one (ps_if (PW.pt (pw_or (pt_c (inK K) (v_ 2) (pe_glob (v := .ref a_SIGNS) rfl T.g_SIGNS rfl)) (pw_or1 (pt_c (inK K) (v_ 2) (pe_glob (v := .ref a_MARKS) rfl T.g_MARKS rfl))))) (pss_one (ps_ret (pe_op (addK K) (v_ 1) (pe_callB (lenK K) (by rfl) T.z_len PySem.boot_len (pa_cons (v_ 2) pa_nil))))) pss_nil))) (pss_one (ps_ret (v_ 1))))))), ?_⟩
  obtain ⟨c, hc, hd⟩ := drop_cons (z := z) (e := a) (by omega)
  have hl : z.length ≤ sizeLine := line_of (by omega)
  have bf : ∀ {c : Bool}, ¬ c = true → c = false := fun h => Bool.eq_false_iff.mpr h
  have mL : decide (c ∈ letters.cps.toList) = isL c := congrFun isL_fn c
  have mD : decide (c ∈ ("0123456789" : Str).cps.toList) = isD c := congrFun isD_fn c
  have m45 : decide ((⟨#[c]⟩ : Str) = "-") = decide (c = 45) := by
    rw [Bool.eq_iff_iff, decide_eq_true_iff, decide_eq_true_iff, one_eq (d := 45) rfl]
  have q1 : ∀ {n : Nat} {H' : Hp}, Same H H' → tokLen (z.cps.toList.drop a) = n → Q (.int ((a + n : Nat) : Int)) H' := fun s e => e ▸ q _ s
  rw [hd, tokLen_run] at q1
  refine ⟨hl, c, atI_nat hc, c, rfl, ?_⟩
  refine ite2 (fun e1 => ?_) (fun e1 => ?_)
  · have e1 : isL c = true := mL.symm.trans e1
    refine ⟨z, _, a, rfl, by omega, hz, ?_⟩
    have := q1 (Same.refl H) (if_pos e1)
    rw [← hd] at this
    have e : (fun c => decide (c ∈ letters.cps.toList)) = isL := isL_fn
    rw [e]
    exact this
  have e1 : isL c = false := mL.symm.trans (bf e1)
  refine ⟨hl, c, atI_nat hc, c, rfl, ?_⟩
  refine ite2 (fun e2 => ?_) (fun e2 => ?_)
  · have e2 : isD c = true := mD.symm.trans e2
    refine ⟨z, _, a, rfl, by omega, hz, ?_⟩
    have := q1 (Same.refl H) ((if_neg (by rw [e1]; decide)).trans (if_pos e2))
    rw [← hd] at this
    have e : (fun c => decide (c ∈ ("0123456789" : Str).cps.toList)) = isD := isD_fn
    rw [e]
    exact this
  have e2 : isD c = false := mD.symm.trans (bf e2)
  have q2 : ∀ {n : Nat} {H' : Hp}, Same H H' → (if c = 45 then (if runN isD (z.cps.toList.drop (a + 1)) = 0 then 0 else 1 + runN isD (z.cps.toList.drop (a + 1))) else if inSM ((c :: z.cps.toList.drop (a + 1)).take 2) then ((c :: z.cps.toList.drop (a + 1)).take 2).length else if inSM [c] then 1 else 0) = n → Q (.int ((a + n : Nat) : Int)) H' := fun s e =>
    q1 s (((if_neg (by rw [e1]; decide)).trans (if_neg (by rw [e2]; decide))).trans e)
  refine ⟨hl, c, atI_nat hc, ?_⟩
  refine ite2 (fun e3 => ?_) (fun e3 => ?_)
  · have e3 : c = 45 := of_decide_eq_true (m45.symm.trans e3)
    refine ⟨z, _, a + 1, rfl, by omega, hz, ?_⟩
    have e : (fun c => decide (c ∈ ("0123456789" : Str).cps.toList)) = isD := isD_fn
    rw [e]
    generalize hk : runN isD (z.cps.toList.drop (a + 1)) = k at q2 ⊢
    have q2' := fun {n : Nat} (h : (if k = 0 then 0 else 1 + k) = n) => q2 (Same.refl H) ((if_pos e3).trans h)
    refine ite2 (fun e4 => ?_) (fun e4 => ?_)
    · have e4 : (a : Int) + 1 < ((a + 1 + k : Nat) : Int) := of_decide_eq_true e4
      have := q2' (if_neg (by omega))
      rw [← Nat.add_assoc] at this
      exact this
    · have e4 : ¬ (a : Int) + 1 < ((a + 1 + k : Nat) : Int) := of_decide_eq_false (bf e4)
      exact q2' (if_pos (by omega))
  have e3 : ¬ c = 45 := of_decide_eq_false (m45.symm.trans (bf e3))
  have q3 : ∀ {n : Nat} {H' : Hp}, Same H H' → (if inSM ((c :: z.cps.toList.drop (a + 1)).take 2) then ((c :: z.cps.toList.drop (a + 1)).take 2).length else if inSM [c] then 1 else 0) = n → Q (.int ((a + n : Nat) : Int)) H' := fun s e => q2 s ((if_neg e3).trans e)
  have hcut : (cutS z (some (a : Int)) (some ((a : Int) + 2))).cps.toList = (c :: z.cps.toList.drop (a + 1)).take 2 := by
    have := cutS_mid (z := z) (a := a) (b := a + 2) (by omega)
    rw [hd, show a + 2 - a = 2 by omega] at this
    exact this
  refine ⟨_, rfl, _, rfl, hl, hl, c, atI_nat hc, (by show 2 ≤ sizeLine; decide), fun t nt => ⟨t, rfl, ⟨_, .inl (.inl upd_same)⟩, ?_⟩⟩
  have hin : ∀ y : Str, inSM y.cps.toList = (inV (.str y) [.str "<", .str "<=", .str "==", .str "!=", .str ">=", .str ">"] || inV (.str y) [.str "(", .str ")", .str ",", .str ";", .str ":"]) := fun y => by
    rw [sg_in, mk_in]
    rfl
  have sm : Same H (upd H t (.tup [.str (cutS z (some (a : Int)) (some ((a : Int) + 2))), .str ⟨#[c]⟩])) := same_new nt
  refine for_tup (K := K) (a := t) (xs := [.str (cutS z (some (a : Int)) (some ((a : Int) + 2))), .str ⟨#[c]⟩]) (fun i σ' H' => H' = upd H t (.tup [.str (cutS z (some (a : Int)) (some ((a : Int) + 2))), .str ⟨#[c]⟩]) ∧ (∃ y w, σ' = [some (.str z), some (.int a), y, w]) ∧
    (1 ≤ i → inSM ((c :: z.cps.toList.drop (a + 1)).take 2) = false) ∧ (2 ≤ i → inSM [c] = false)) ⟨rfl, ⟨_, _, rfl⟩, fun h => absurd h (by decide), fun h => absurd h (by decide)⟩ (fun i σ' H' _ h => by rw [h.1]; exact .inl (.inl upd_same)) ?_ ?_
  · rintro i x σ' H' hi ⟨rfl, ⟨y, w, rfl⟩, g1, g2⟩
    obtain ⟨p, rfl, hp, hlen, hyes, hno⟩ : ∃ p : Str, x = .str p ∧ p.length ≤ 2 ∧ p.length ≤ sizeLine ∧ (inSM p.cps.toList = true → Q (.int ((a : Int) + p.length)) (upd H t (.tup [.str (cutS z (some (a : Int)) (some ((a : Int) + 2))), .str ⟨#[c]⟩]))) ∧
        (inSM p.cps.toList = false → (1 ≤ i + 1 → inSM ((c :: z.cps.toList.drop (a + 1)).take 2) = false) ∧ (2 ≤ i + 1 → inSM [c] = false)) := by
      match i, hi with
      | 0, hi =>
        cases hi
        have l2 : (cutS z (some (a : Int)) (some ((a : Int) + 2))).length = ((c :: z.cps.toList.drop (a + 1)).take 2).length := by rw [← hcut, len_cps]
        have l3 : ((c :: z.cps.toList.drop (a + 1)).take 2).length ≤ 2 := by rw [List.length_take]; omega
        refine ⟨_, rfl, by omega, line_of (by omega), fun h => ?_, fun h => ⟨fun _ => by rw [← hcut]; exact h, fun h2 => absurd h2 (by decide)⟩⟩
        rw [hcut] at h
        have := q3 sm (if_pos h)
        rw [← l2] at this
        exact this
      | 1, hi =>
        cases hi
        refine ⟨_, rfl, (by rw [one_len]; decide), line_of (by rw [one_len]; decide), fun h => ?_, fun h => ⟨fun _ => g1 (by decide), fun _ => h⟩⟩
        exact q3 sm ((if_neg (by rw [g1 (by decide)]; decide)).trans (if_pos h))
      | i + 2, hi => cases hi
    rw [hin] at hyes hno
    refine ⟨_, .inr (T.q_SIGNS _), rfl, rfl, ?_⟩
    refine ite2 (fun e5 => ?_) (fun e5 => ?_)
    · exact ⟨hlen, hyes (by rw [show inV (.str p) [.str "<", .str "<=", .str "==", .str "!=", .str ">=", .str ">"] = true from e5]; rfl)⟩
    refine ⟨_, .inr (T.q_MARKS _), rfl, rfl, ?_⟩
    refine ite2 (fun e6 => ?_) (fun e6 => ?_)
    · exact ⟨hlen, hyes (by rw [show inV (.str p) [.str "(", .str ")", .str ",", .str ";", .str ":"] = true from e6, Bool.or_true])⟩
    have := hno (by rw [show inV (.str p) [.str "<", .str "<=", .str "==", .str "!=", .str ">=", .str ">"] = false from bf e5, show inV (.str p) [.str "(", .str ")", .str ",", .str ";", .str ":"] = false from bf e6]; rfl)
    exact ⟨rfl, ⟨_, _, rfl⟩, this.1, this.2⟩
  · rintro σ' H' ⟨rfl, ⟨y, w, rfl⟩, g1, g2⟩
    have g1' := g1 (by show 1 ≤ 2; decide)
    have g2' := g2 (by show 2 ≤ 2; decide)
    exact q3 sm ((if_neg (by rw [g1']; decide)).trans (if_neg (by rw [g2']; decide)))

/-! ### split_line -/
def PairL (H : Hp) : List Addr → List (List Nat × Nat) → Prop
  | [], [] => True
  | t :: ts, x :: xs => (∃ z : Str, H t = some (.tup [.str z, .int (x.2 : Int)]) ∧ z.cps.toList = x.1) ∧ PairL H ts xs
  | _, _ => False
theorem PairL.same {H H' : Hp} (s : ∀ b o, (∃ z i, o = HO.tup [.str z, .int i]) → H b = some o → H' b = some o) : ∀ {ts : List Addr} {l : List (List Nat × Nat)}, PairL H ts l → PairL H' ts l
  | [], [], _ => trivial
  | t :: ts, x :: xs, ⟨⟨z, h1, h2⟩, h⟩ => ⟨⟨z, s _ _ ⟨_, _, rfl⟩ h1, h2⟩, PairL.same s h⟩
theorem PairL.snoc {H : Hp} {t : Addr} {z : Str} {n : Nat} (e : H t = some (.tup [.str z, .int (n : Int)])) : ∀ {ts : List Addr} {l : List (List Nat × Nat)}, PairL H ts l → PairL H (ts ++ [t]) (l ++ [(z.cps.toList, n)])
  | [], [], _ => ⟨⟨z, e, rfl⟩, trivial⟩
  | _ :: _, _ :: _, ⟨h1, h⟩ => ⟨h1, PairL.snoc e h⟩
theorem PairL.len {H : Hp} : ∀ {ts : List Addr} {l : List (List Nat × Nat)}, PairL H ts l → ts.length = l.length
  | [], [], _ => rfl
  | _ :: _, _ :: _, ⟨_, h⟩ => by rw [List.length_cons, List.length_cons, h.len]
/-- what split_line answers: the pairs, or the column of the strange sign in line num -/
def Splits (K : PySem.W.Frag) (H : Hp) (z : Str) (num : Int) (Q : VK) (E : XK) : Prop := match splitL z.cps.toList 1 with
  | .ok l => ∀ (H' : Hp) (p : Addr) (ts : List Addr), Same H H' → H p = none → H' p = some (.lst (ts.map V.ref)) → PairL H' ts l → Q (.ref p) H'
  | .error c => ∀ (C d : Addr) (H' : Hp), PySem.W.nsIn K mainGlobals "BadText" = some (some (.ref C)) → Same H H' → H d = none → H' d = some (.xd [("column", .int (c : Int)), ("line", .int num)]) → E (.ref C) (some d) H'
def sp_split_line (K : PySem.W.Frag) : Sp := fun vs H Q E => ∃ (z : Str) (num : Int), vs = [.str z, .int num] ∧ z.length ≤ 20000 ∧ 0 ≤ num ∧ num ≤ 100000 ∧ Splits K H z num Q E
theorem len_split_line {vs : List V} {H : Hp} {Q : VK} {E : XK} (h : sp_split_line K vs H Q E) : vs.length = 2 := by
  obtain ⟨_, _, rfl, _⟩ := h
  rfl
end
section
variable {P : Program} {w : World} {K : PySem.W.Frag} {mg : Str → Option Value} {base : Heap}
variable {t_DIGITS t_LETTERS t_LONGEST_NAME : Tok} {a_DEEDS a_MARKS a_RESERVED a_SIGNS a_BadName a_BadPlan a_BadText a_ElseputError a_Plan a_Reader : Addr}
def okx_BadText (ws : List V) : Prop := ∃ l c : Int, ws = [.int l, .int c] ∧ 0 ≤ l ∧ l ≤ 100000 ∧ 0 ≤ c ∧ c ≤ 100000
def fs_BadText (ws : List V) : List (Str × V) := match ws with | [l, c] => [("column", c), ("line", l)] | _ => []
theorem ok_BadText {C f cc cda : Addr} {doc pm ct oc ccl cl : Value} {od cdd cld : Option Addr} {osl ccs csl : Array (Option Value)} {vs0 : Array Value} {file : Str} {tf : Tok} {cdD : ClassData}
    (X : ExK K C f ["line", "column"]) (lk : K.lookup f = some ⟨oc, od, .func (PySem.W.fnX "__init__" "BadText.__init__" (defArgs s_BadText) (defBody s_BadText) (defScope s_BadText) [("__class__", cc)] .none .none doc pm none (.ref cda) ct), osl⟩)
    (hcd : PySem.W.codeIn K (.ref cda) "BadText.__init__" = true) (hcode : K.lookup cda = some ⟨ccl, cdd, .fields vs0, ccs⟩) (hvs : vs0[2]? = some (.str file tf)) (hfile : ((P.main.file : Str) == file) = true)
    (hcell : K.lookup cc = some ⟨cl, cld, .cell (some (.ref C)), csl⟩) (hD : PySem.W.clsIn K C = some cdD) (hsuper : mg "super" = none) (hop : PySem.W.nsIn K PySem.cStatics "thirdparty.any" = some none) (htop : (P.main.scope.names.lookup ("super" : Str)).isSome = false) :
    FnOk P w K mg base CX0 1 f (PySem.W.fnX "__init__" "BadText.__init__" (defArgs s_BadText) (defBody s_BadText) (defScope s_BadText) [("__class__", cc)] .none .none doc pm none (.ref cda) ct) ["self", "line", "column"] (spE C okx_BadText fs_BadText) := by
  refine fn_super lk hcd sc_BadText hcode hvs hfile hcell hD hsuper hop rfl rfl rfl htop rfl (fun vs H Q E h => len_spE (n := 2) (fun ws h => by obtain ⟨_, _, rfl, _⟩ := h; rfl) h) (fun A outer s H vs Q E hr h => ?_) (fun _ => rfl) (fun _ => rfl) (fun _ => rfl)
  obtain ⟨a, ws, rfl, ⟨l, c, rfl, l0, l1, c0, c1⟩, ea, q⟩ := h
  refine ⟨a, C, _, _, rfl, ea, X.oex, X.mro, X.sup, X.subV, pa_cons (pe_joined (.cons pe_str (.cons (pe_fmt (v_ 1)) (.cons pe_str (.cons (pe_fmt (v_ 2)) .nil))))) pa_nil, pss_cons (ps_ost (v_ 0) (v_ 1)) (pss_one (ps_ost (v_ 0) (v_ 2))), ?_⟩
  have tl := text_small l0 l1
  have tc := text_small c0 c1
  have z0 : Str.empty.length = 0 := rfl
  have z1 : (Str.ofString "line ").length = 5 := rfl
  have z2 : (Str.ofString ", column ").length = 9 := rfl
  refine ⟨_, rfl, line_of (by rw [len_add]; omega), .inr ⟨_, rfl, log_small l0 l1, _, rfl, line_of (by rw [len_add, len_add]; omega), ?_⟩⟩
  refine ⟨_, rfl, line_of (by rw [len_add, len_add, len_add]; omega), .inr ⟨_, rfl, log_small c0 c1, _, rfl, line_of (by rw [len_add, len_add, len_add, len_add]; omega), ?_⟩⟩
  refine ⟨ea, (by show 1 ≤ 1000; decide), ?_⟩
  refine ⟨a, C, rfl, X.oex, X.no _ (by simp), .inl ⟨ea, ost1 ea fun dx H' n ne e1 e2 hh => ?_⟩⟩
  refine ⟨a, C, rfl, X.oex, X.no _ (by simp), .inr ⟨dx, _, e1, e2, (by show 1 ≤ 900; decide), ?_⟩⟩
  exact q dx _ n ne (by rw [upd_ne ne.symm]; exact e1) upd_same fun b h1 h2 => by rw [upd_ne h2]; exact hh b h1 h2

theorem ok_split_line {f : Addr} {fd : FuncData} {f_token_end : Addr} {fd_token_end : FuncData} {f_BadText : Addr} {fd_BadText : FuncData} (F : Fun K "split_line" "split_line" s_split_line f fd) (T : Gs K mg t_DIGITS t_LETTERS t_LONGEST_NAME a_DEEDS a_MARKS a_RESERVED a_SIGNS a_BadName a_BadPlan a_BadText a_ElseputError a_Plan a_Reader) (c_token_end : Cal P w K mg base CX0 2 "token_end" f_token_end fd_token_end ["line", "at"] (sp_token_end K)) (c_BadText : CalE P w K mg base 1 "BadText" a_BadText f_BadText fd_BadText ["self", "line", "column"] okx_BadText fs_BadText ["line", "column"]) : FnOk P w K mg base (L2.CX P w) 3 f fd ["line", "number"] (sp_split_line K) := by
  refine F.okX sc_split_line (fun vs H Q E h => len_split_line h) (fun cdv A outer s H vs Q E hr h => ?_)
  obtain ⟨z, num, rfl, hz, n0, n1, q⟩ := h
  refine ⟨_, (pss_cons (ps_set (i := 2) sc_split_line.nd rfl (.inl rfl) (pe_lst pa_nil)) (pss_cons (ps_set (i := 3) sc_split_line.nd rfl (.inl rfl) pe_int) (pss_cons (ps_while (passes_of rfl) (pt_c op_ltM (v_ 3) (pe_callB (lenK K) (by rfl) T.z_len PySem.boot_len (pa_cons (v_ 0) pa_nil))) (pss_cons (ps_set (i := 4) sc_split_line.nd rfl (.inl rfl) (pe_call c_token_end.G (hr.mono (by first | decide | omega)) rfl c_token_end.m c_token_end.kp c_token_end.b .nil pass0 (pa_cons (v_ 0) (pa_cons (v_ 3) pa_nil)))) (pss_one (ps_if (pt_c op_gtM (v_ 4) (v_ 3)) (pss_cons (ps_expr (pe_bm PySem.F.plainAttrs_list PySem.F.slot_list_append PySem.F.type_list_append mt_append (v_ 2) (pa_cons (pe_tup (pa_cons (pe_slice (slK K) (v_ 0) (po_some (v_ 3)) (po_some (v_ 4))) (pa_cons (pe_op (addK K) (v_ 3) pe_int) pa_nil))) pa_nil))) (pss_one (ps_set (i := 3) sc_split_line.nd rfl (.inl rfl) (v_ 4)))) (pss_one (ps_if (pt_c (eqK K hr.units) (e_x K (v_ 0) (v_ 3)) pe_str) (pss_one (ps_aug (i := 3) sc_split_line.nd rfl (.inl rfl) pe_int ip_add)) (pss_one (ps_raise rfl (takes_of rfl rfl rfl rfl) (pmk_oex c_BadText.X.oex c_BadText.X.iC c_BadText.X.tI c_BadText.G (hr.mono (by first | decide | omega)) c_BadText.b .nil pass0 rfl c_BadText.m (pa_cons (v_ 1) (pa_cons (pe_op (addK K) (v_ 3) pe_int) pa_nil))))))))))) (pss_one (ps_ret (v_ 2)))))), ?_⟩
  have hl : z.length ≤ sizeLine := line_of (by omega)
  have bf : ∀ {c : Bool}, ¬ c = true → c = false := fun h => Bool.eq_false_iff.mpr h
  refine ⟨Nat.zero_le _, fun p np => ?_⟩
  refine ⟨fun m σ' H' => ∃ (e : Nat) (y : Option V) (ts : List Addr) (l0 : List (List Nat × Nat)), m = z.length - e ∧ e ≤ z.length ∧ σ' = [some (.str z), some (.int num), some (.ref p), some (.int e), y] ∧ Same H H' ∧ H' p = some (.lst (ts.map V.ref)) ∧ PairL H' ts l0 ∧ l0.length ≤ e ∧
    splitL z.cps.toList 1 = (match splitL (z.cps.toList.drop e) (1 + e) with | .ok l => .ok (l0 ++ l) | .error c => .error c), ⟨_, 0, _, [], [], rfl, Nat.zero_le _, rfl, same_new np, upd_same, trivial, Nat.le_refl _, ?_⟩, ?_⟩
  · rw [List.drop_zero]
    cases splitL z.cps.toList 1 <;> rfl
  rintro m σ' H' ⟨e, y, ts, l0, rfl, he, rfl, sm, hp, hts, hl0, hsp⟩
  refine ⟨hl, ?_⟩
  refine ite2 (fun e1 => ?_) (fun e1 => ?_)
  · have e1 : (e : Int) < z.length := of_decide_eq_true e1
    obtain ⟨c, hc, hd⟩ := drop_cons (z := z) (e := e) (by omega)
    have hk := tokLen_le (z.cps.toList.drop e)
    rw [List.length_drop, len_cps] at hk
    refine ⟨fun σ2 H2 => ∃ m', m' < z.length - e ∧ ∃ (e : Nat) (y : Option V) (ts : List Addr) (l0 : List (List Nat × Nat)), m' = z.length - e ∧ e ≤ z.length ∧ σ2 = [some (.str z), some (.int num), some (.ref p), some (.int e), y] ∧ Same H H2 ∧ H2 p = some (.lst (ts.map V.ref)) ∧ PairL H2 ts l0 ∧ l0.length ≤ e ∧
      splitL z.cps.toList 1 = (match splitL (z.cps.toList.drop e) (1 + e) with | .ok l => .ok (l0 ++ l) | .error c => .error c), fun _ _ h => h, ?_⟩
    refine ⟨z, e, rfl, by omega, hz, fun H2 s2 => ?_⟩
    have sm2 := sm.trans s2
    have hp2 := s2 _ _ hp
    have hts2 := hts.same fun b o _ h => s2 b o h
    generalize hkk : tokLen (z.cps.toList.drop e) = k at hk ⊢
    refine ite2 (fun e2 => ?_) (fun e2 => ?_)
    · have e2 : (e : Int) < ((e + k : Nat) : Int) := of_decide_eq_true e2
      have k0 : 0 < k := by omega
      refine ⟨.inl ⟨rfl, _, SqL.of hp2⟩, _, rfl, _, rfl, hl, (by show 2 ≤ sizeLine; decide), fun t nt => ⟨p, _, _, rfl, rfl, same_new nt _ _ hp2, line_lt (by rw [List.length_map, hts.len]; omega), ?_⟩⟩
      have pt : p ≠ t := ne_of_none hp2 nt
      have tH : H t = none := Same.free sm2 nt
      have ht : upd (upd H2 t (.tup [.str (cutS z (some (e : Int)) (some ((e + k : Nat) : Int))), .int ((e : Int) + 1)])) p (.lst (ts.map V.ref ++ [.ref t])) t = some (.tup [.str (cutS z (some (e : Int)) (some ((e + k : Nat) : Int))), .int (((1 + e : Nat) : Nat) : Int)]) := by
        rw [upd_ne pt.symm, upd_same, show (((1 + e : Nat) : Nat) : Int) = (e : Int) + 1 by omega]
      refine ⟨z.length - (e + k), by omega, e + k, _, ts ++ [t], l0 ++ [((z.cps.toList.drop e).take k, 1 + e)], rfl, by omega, rfl, ?_, ?_, ?_, ?_, ?_⟩
      · intro b o hb
        rw [upd_ne (ne_of_none hb np), upd_ne (ne_of_none hb tH)]
        exact sm2 b o hb
      · rw [upd_same, List.map_append]
        rfl
      · have h1 : PairL (upd (upd H2 t (.tup [.str (cutS z (some (e : Int)) (some ((e + k : Nat) : Int))), .int ((e : Int) + 1)])) p (.lst (ts.map V.ref ++ [.ref t]))) ts l0 := hts2.same fun b o ho hb => by
          obtain ⟨z', i', rfl⟩ := ho
          rw [upd_ne (ne_of hb hp2 (by intro e; cases e)), upd_ne (ne_of_none hb nt)]
          exact hb
        have h2 := h1.snoc ht
        rw [cutS_mid (by omega), show e + k - e = k by omega] at h2
        exact h2
      · rw [List.length_append, List.length_singleton]
        omega
      · rw [hsp, splitL_tok (by rw [hkk]; exact k0), hkk, List.drop_drop, show 1 + e + k = 1 + (e + k) by omega]
        cases splitL (z.cps.toList.drop (e + k)) (1 + (e + k)) with
        | ok l =>
          show Except.ok _ = Except.ok _
          rw [List.append_assoc]
          rfl
        | error c => rfl
    · have e2 : ¬ (e : Int) < ((e + k : Nat) : Int) := of_decide_eq_false (bf e2)
      have k0 : k = 0 := by omega
      subst k0
      have m32 : decide ((⟨#[c]⟩ : Str) = " ") = decide (c = 32) := by
        rw [Bool.eq_iff_iff, decide_eq_true_iff, decide_eq_true_iff, one_eq (d := 32) rfl]
      refine ⟨hl, c, atI_nat hc, ?_⟩
      refine ite2 (fun e3 => ?_) (fun e3 => ?_)
      · have e3 : c = 32 := of_decide_eq_true (m32.symm.trans e3)
        subst e3
        refine ⟨_, rfl, _, _, rfl, rfl, z.length - (e + 1), by omega, e + 1, _, ts, l0, rfl, by omega, rfl, sm2, hp2, hts2, by omega, ?_⟩
        rw [hsp, hd, splitL_space, Nat.add_assoc]
      · have e3 : ¬ c = 32 := of_decide_eq_false (m32.symm.trans (bf e3))
        refine mk_spE (by show 2 ≤ 1000; decide) ⟨num, (e : Int) + 1, rfl, n0, n1, by omega, by omega⟩ (fun d nd => ?_)
        have : splitL z.cps.toList 1 = .error (1 + e) := by
          rw [hsp, hd, splitL_bad (by rw [← hd]; exact hkk) e3]
        unfold Splits at q
        rw [this] at q
        refine q a_BadText d _ T.n_BadText (sm2.trans (same_new nd)) (Same.free sm2 nd) ?_
        rw [upd_same]
        rw [show (((1 + e : Nat) : Nat) : Int) = (e : Int) + 1 by omega]
        rfl
  · have e1 : ¬ (e : Int) < z.length := of_decide_eq_false (bf e1)
    have : z.cps.toList.drop e = [] := List.drop_of_length_le (by rw [len_cps]; omega)
    rw [this, splitL_nil] at hsp
    have hsp : splitL z.cps.toList 1 = .ok (l0 ++ []) := hsp
    unfold Splits at q
    rw [hsp, List.append_nil] at q
    exact q H' p ts sm np hp hts

end
section
variable {P : Program} {w : World} {K : PySem.W.Frag} {mg : Str → Option Value} {base : Heap}
variable {t_DIGITS t_LETTERS t_LONGEST_NAME : Tok} {a_DEEDS a_MARKS a_RESERVED a_SIGNS a_BadName a_BadPlan a_BadText a_ElseputError a_Plan a_Reader : Addr}
/-! ### the reader -/
abbrev Tks := List (List Nat × Nat)
def RdAt (K : PySem.W.Frag) (H : Hp) (a p : Addr) (num e : Int) (toks : Tks) (i : Nat) : Prop := ∃ (C dx : Addr) (ts : List Addr), PySem.W.nsIn K mainGlobals "Reader" = some (some (.ref C)) ∧ H a = some (.ins C dx [("_parts", .ref p), ("_number", .int num), ("_end", .int e), ("_at", .int i)]) ∧ H p = some (.lst (ts.map V.ref)) ∧ PairL H ts toks ∧ i ≤ toks.length
def tokAt (toks : Tks) (i : Nat) : List Nat := (toks[i]?.map (·.1)).getD []
def colAt (toks : Tks) (e : Int) (i : Nat) : Int := (toks[i]?.map (fun x => (x.2 : Int))).getD e
/-- sizes: texts of at most 1000 signs, columns of at most 100000 -/
def TkOk (toks : Tks) : Prop := ∀ x ∈ toks, x.1.length ≤ 1000 ∧ x.2 ≤ 100000
theorem PairL.get {H : Hp} : ∀ {ts : List Addr} {l : Tks}, PairL H ts l → ∀ {i : Nat} {x : List Nat × Nat}, l[i]? = some x → ∃ t, ts[i]? = some t ∧ H t = some (.tup [.str (mkS x.1), .int (x.2 : Int)])
  | t :: ts, x :: xs, ⟨⟨z, h1, h2⟩, h⟩, 0, y, e => by
    simp at e
    subst e
    exact ⟨t, rfl, by rw [h1, mkS_of h2]⟩
  | t :: ts, x :: xs, ⟨_, h⟩, i + 1, y, e => by simpa using h.get (i := i) (x := y) (by simpa using e)
  | [], _ :: _, h, _, _, _ => False.elim h
theorem tokAt_of {toks : Tks} {i : Nat} {x : List Nat × Nat} (h : toks[i]? = some x) : tokAt toks i = x.1 := by unfold tokAt; rw [h]; rfl
theorem tokAt_end {toks : Tks} {i : Nat} (h : toks.length ≤ i) : tokAt toks i = [] := by unfold tokAt; rw [List.getElem?_eq_none h]; rfl
theorem tokAt_lt {toks : Tks} {i : Nat} (h : tokAt toks i ≠ []) : i < toks.length := by
  rcases Nat.lt_or_ge i toks.length with h1 | h1
  · exact h1
  · exact absurd (tokAt_end h1) h
theorem tokAt_le {toks : Tks} {i : Nat} (h : TkOk toks) : (tokAt toks i).length ≤ 1000 := by
  unfold tokAt
  cases e : toks[i]? with
  | none => exact Nat.zero_le _
  | some x => exact (h x (List.mem_of_getElem? e)).1
def BadAt (K : PySem.W.Frag) (H : Hp) (num col : Int) (E : XK) : Prop := ∀ (C d : Addr) (H' : Hp), PySem.W.nsIn K mainGlobals "BadText" = some (some (.ref C)) → Same H H' → H d = none → H' d = some (.xd [("column", .int col), ("line", .int num)]) → E (.ref C) (some d) H'
theorem RdAt.bt {a p : Addr} {num e : Int} {toks : Tks} {i : Nat} {H H' : Hp} (h : RdAt K H a p num e toks i) (s : Same H H') : RdAt K H' a p num e toks i := by
  obtain ⟨C, dx, ts, h1, h2, h3, h4, h5⟩ := h
  exact ⟨C, dx, ts, h1, s _ _ h2, s _ _ h3, h4.same fun b o _ hb => s b o hb, h5⟩
/-- the reader one further -/
theorem RdAt.on {a p : Addr} {num e : Int} {toks : Tks} {i : Nat} {H : Hp} {C dx : Addr} {ts : List Addr} (hC : PySem.W.nsIn K mainGlobals "Reader" = some (some (.ref C))) (h2 : H a = some (.ins C dx [("_parts", .ref p), ("_number", .int num), ("_end", .int e), ("_at", .int i)])) (h3 : H p = some (.lst (ts.map V.ref))) (h4 : PairL H ts toks) (h5 : i < toks.length) :
    RdAt K (upd H a (.ins C dx [("_parts", .ref p), ("_number", .int num), ("_end", .int e), ("_at", .int ((i + 1 : Nat) : Int))])) a p num e toks (i + 1) := by
  refine ⟨C, dx, ts, hC, upd_same, ?_, h4.same fun b o ho hb => ?_, h5⟩
  · rw [upd_ne (ne_of h3 h2 (by intro e; cases e))]
    exact h3
  · obtain ⟨z, n, rfl⟩ := ho
    rw [upd_ne (ne_of hb h2 (by intro e; cases e))]
    exact hb
def Rd0 (K : PySem.W.Frag) (H : Hp) (a p : Addr) (num e : Int) (toks : Tks) (i : Nat) : Prop := RdAt K H a p num e toks i ∧ TkOk toks ∧ 0 ≤ num ∧ num ≤ 100000 ∧ 0 ≤ e ∧ e ≤ 100000
def sp_Reader_at_end (K : PySem.W.Frag) : Sp := fun vs H Q _ => ∃ (a p : Addr) (num e : Int) (toks : Tks) (i : Nat), vs = [.ref a] ∧ RdAt K H a p num e toks i ∧ Q (.bl (decide (i = toks.length))) H
theorem len_Reader_at_end {vs : List V} {H : Hp} {Q : VK} {E : XK} (h : sp_Reader_at_end K vs H Q E) : vs.length = 1 := by
  obtain ⟨_, _, _, _, _, _, rfl, _⟩ := h
  rfl
theorem ok_Reader_at_end {f : Addr} {fd : FuncData} (F : Fun K "at_end" "Reader.at_end" s_Reader_at_end f fd) (T : Gs K mg t_DIGITS t_LETTERS t_LONGEST_NAME a_DEEDS a_MARKS a_RESERVED a_SIGNS a_BadName a_BadPlan a_BadText a_ElseputError a_Plan a_Reader) : FnOk P w K mg base CX0 1 f fd ["self"] (sp_Reader_at_end K) := by
  refine F.ok sc_Reader_at_end (fun vs H Q E h => len_Reader_at_end h) (fun cdv A outer s H vs Q E hr h => ?_)
  obtain ⟨a, p, num, e, toks, i, rfl, ⟨C, dx, ts, hC, ha, hp, hts, hi⟩, q⟩ := h
  cases hC.symm.trans T.n_Reader
  refine ⟨_, (pss_one (ps_ret (pe_c (eqK K hr.units) (e_f K (v_ 0)) (pe_callB (lenK K) (by rfl) T.z_len PySem.boot_len (pa_cons (e_f K (v_ 0)) pa_nil))))), ?_⟩
  refine ⟨a, a_Reader, dx, _, _, rfl, ha, T.cl_Reader, T.na_Reader__at, rfl, ?_⟩
  refine ⟨a, a_Reader, dx, _, _, rfl, ha, T.cl_Reader, T.na_Reader__parts, rfl, ?_⟩
  refine .inl ⟨_, .inl (SqL.of hp), ?_⟩
  rw [List.length_map, hts.len]
  have e : decide ((i : Int) = (toks.length : Int)) = decide (i = toks.length) := by
    rw [Bool.eq_iff_iff, decide_eq_true_iff, decide_eq_true_iff]
    omega
  rw [← e] at q
  exact q
def sp_Reader_ahead (K : PySem.W.Frag) : Sp := fun vs H Q _ => ∃ (a p : Addr) (num e : Int) (toks : Tks) (i : Nat), vs = [.ref a] ∧ RdAt K H a p num e toks i ∧ Q (.str (mkS (tokAt toks i))) H
theorem len_Reader_ahead {vs : List V} {H : Hp} {Q : VK} {E : XK} (h : sp_Reader_ahead K vs H Q E) : vs.length = 1 := by
  obtain ⟨_, _, _, _, _, _, rfl, _⟩ := h
  rfl
theorem ok_Reader_ahead {f : Addr} {fd : FuncData} {f_Reader_at_end : Addr} {fd_Reader_at_end : FuncData} (F : Fun K "ahead" "Reader.ahead" s_Reader_ahead f fd) (T : Gs K mg t_DIGITS t_LETTERS t_LONGEST_NAME a_DEEDS a_MARKS a_RESERVED a_SIGNS a_BadName a_BadPlan a_BadText a_ElseputError a_Plan a_Reader) (c_Reader_at_end : CalM P w K mg base CX0 1 a_Reader "at_end" f_Reader_at_end fd_Reader_at_end ["self"] (sp_Reader_at_end K)) : FnOk P w K mg base CX0 2 f fd ["self"] (sp_Reader_ahead K) := by
  refine F.ok sc_Reader_ahead (fun vs H Q E h => len_Reader_ahead h) (fun cdv A outer s H vs Q E hr h => ?_)
  obtain ⟨a, p, num, e, toks, i, rfl, hR, q⟩ := h
  obtain ⟨C, dx, ts, hC, ha, hp, hts, hi⟩ := id hR
  cases hC.symm.trans T.n_Reader
  refine ⟨_, (pss_one (ps_ret (pe_ifExp (pt_t K (pe_meth0 (v_ 0) c_Reader_at_end.cl c_Reader_at_end.me c_Reader_at_end.G (hr.mono (by first | decide | omega)) c_Reader_at_end.b .nil pass0)) pe_str (e_x K (e_x K (e_f K (v_ 0)) (e_f K (v_ 0))) pe_int)))), ?_⟩
  refine ⟨a, dx, _, rfl, ha, rfl, a, p, num, e, toks, i, rfl, hR, ?_⟩
  refine ite2 (fun e1 => ?_) (fun e1 => ?_)
  · have e1 : i = toks.length := of_decide_eq_true e1
    rw [tokAt_end (by omega)] at q
    exact q
  · have e1 : ¬ i = toks.length := of_decide_eq_false (Bool.eq_false_iff.mpr e1)
    obtain ⟨x, hx⟩ : ∃ x, toks[i]? = some x := ⟨_, List.getElem?_eq_getElem (by omega)⟩
    obtain ⟨t, ht1, ht2⟩ := hts.get hx
    rw [tokAt_of hx] at q
    refine ⟨a, a_Reader, dx, _, _, rfl, ha, T.cl_Reader, T.na_Reader__parts, rfl, ?_⟩
    refine ⟨a, a_Reader, dx, _, _, rfl, ha, T.cl_Reader, T.na_Reader__at, rfl, ?_⟩
    refine ⟨_, .inl (SqL.of hp), .ref t, atI_nat (by rw [List.getElem?_map, ht1]; rfl), ?_⟩
    exact ⟨_, .inr (SqT.of ht2), .str (mkS x.1), rfl, q⟩
def sp_Reader__refuse (K : PySem.W.Frag) : Sp := fun vs H Q E => ∃ (a p : Addr) (num e : Int) (toks : Tks) (i : Nat), vs = [.ref a] ∧ Rd0 K H a p num e toks i ∧ BadAt K H num (colAt toks e i) E
theorem len_Reader__refuse {vs : List V} {H : Hp} {Q : VK} {E : XK} (h : sp_Reader__refuse K vs H Q E) : vs.length = 1 := by
  obtain ⟨_, _, _, _, _, _, rfl, _⟩ := h
  rfl
theorem ok_Reader__refuse {f : Addr} {fd : FuncData} {f_Reader_at_end : Addr} {fd_Reader_at_end : FuncData} {f_BadText : Addr} {fd_BadText : FuncData} (F : Fun K "_refuse" "Reader._refuse" s_Reader__refuse f fd) (T : Gs K mg t_DIGITS t_LETTERS t_LONGEST_NAME a_DEEDS a_MARKS a_RESERVED a_SIGNS a_BadName a_BadPlan a_BadText a_ElseputError a_Plan a_Reader) (c_Reader_at_end : CalM P w K mg base CX0 1 a_Reader "at_end" f_Reader_at_end fd_Reader_at_end ["self"] (sp_Reader_at_end K)) (c_BadText : CalE P w K mg base 1 "BadText" a_BadText f_BadText fd_BadText ["self", "line", "column"] okx_BadText fs_BadText ["line", "column"]) : FnOk P w K mg base (L2.CX P w) 3 f fd ["self"] (sp_Reader__refuse K) := by
  refine F.okX sc_Reader__refuse (fun vs H Q E h => len_Reader__refuse h) (fun cdv A outer s H vs Q E hr h => ?_)
  obtain ⟨a, p, num, e, toks, i, rfl, ⟨hR, hT, n0, n1, e0, e1⟩, q⟩ := h
  obtain ⟨C, dx, ts, hC, ha, hp, hts, hi⟩ := id hR
  cases hC.symm.trans T.n_Reader
  refine ⟨_, (pss_cons (ps_set (i := 1) sc_Reader__refuse.nd rfl (.inl rfl) (pe_ifExp (pt_t K (pe_meth0 (v_ 0) c_Reader_at_end.cl c_Reader_at_end.me c_Reader_at_end.G (hr.mono (by first | decide | omega)) c_Reader_at_end.b .nil pass0)) (e_f K (v_ 0)) (e_x K (e_x K (e_f K (v_ 0)) (e_f K (v_ 0))) pe_int))) (pss_one (ps_raise rfl (takes_of rfl rfl rfl rfl) (pmk_oex c_BadText.X.oex c_BadText.X.iC c_BadText.X.tI c_BadText.G (hr.mono (by first | decide | omega)) c_BadText.b .nil pass0 rfl c_BadText.m (pa_cons (e_f K (v_ 0)) (pa_cons (v_ 1) pa_nil)))))), ?_⟩
  refine ⟨a, dx, _, rfl, ha, rfl, a, p, num, e, toks, i, rfl, hR, ?_⟩
  refine ite2 (fun e2 => ?_) (fun e2 => ?_)
  · have e2 : i = toks.length := of_decide_eq_true e2
    refine ⟨a, a_Reader, dx, _, _, rfl, ha, T.cl_Reader, T.na_Reader__end, rfl, ?_⟩
    refine ⟨a, a_Reader, dx, _, _, rfl, ha, T.cl_Reader, T.na_Reader__number, rfl, ?_⟩
    refine mk_spE (by show 2 ≤ 1000; decide) ⟨num, e, rfl, n0, n1, e0, e1⟩ (fun d nd => ?_)
    have hc : colAt toks e i = e := by unfold colAt; rw [List.getElem?_eq_none (by omega)]; rfl
    rw [hc] at q
    exact q a_BadText d _ T.n_BadText (same_new nd) nd upd_same
  · have e2 : ¬ i = toks.length := of_decide_eq_false (Bool.eq_false_iff.mpr e2)
    obtain ⟨x, hx⟩ : ∃ x, toks[i]? = some x := ⟨_, List.getElem?_eq_getElem (by omega)⟩
    obtain ⟨t, ht1, ht2⟩ := hts.get hx
    have hxb := (hT x (List.mem_of_getElem? hx)).2
    refine ⟨a, a_Reader, dx, _, _, rfl, ha, T.cl_Reader, T.na_Reader__parts, rfl, ?_⟩
    refine ⟨a, a_Reader, dx, _, _, rfl, ha, T.cl_Reader, T.na_Reader__at, rfl, ?_⟩
    refine ⟨_, .inl (SqL.of hp), .ref t, atI_nat (by rw [List.getElem?_map, ht1]; rfl), ?_⟩
    refine ⟨_, .inr (SqT.of ht2), .int (x.2 : Int), rfl, ?_⟩
    refine ⟨a, a_Reader, dx, _, _, rfl, ha, T.cl_Reader, T.na_Reader__number, rfl, ?_⟩
    refine mk_spE (by show 2 ≤ 1000; decide) ⟨num, (x.2 : Int), rfl, n0, n1, by omega, by omega⟩ (fun d nd => ?_)
    have hc : colAt toks e i = (x.2 : Int) := by unfold colAt; rw [hx]; rfl
    rw [hc] at q
    exact q a_BadText d _ T.n_BadText (same_new nd) nd upd_same
def Took (K : PySem.W.Frag) (H : Hp) (a p : Addr) (num e : Int) (toks : Tks) (i : Nat) (v : V) (Q : VK) : Prop := i < toks.length ∧ ∀ H', Bt a H H' → RdAt K H' a p num e toks (i + 1) → Q v H'
def sp_Reader__take_if (K : PySem.W.Frag) : Sp := fun vs H Q E => ∃ (a p : Addr) (num e : Int) (toks : Tks) (i : Nat) (b : Bool), vs = [.ref a, .bl b] ∧ Rd0 K H a p num e toks i ∧ (if b = true then Took K H a p num e toks i (.str (mkS (tokAt toks i))) Q else BadAt K H num (colAt toks e i) E)
theorem len_Reader__take_if {vs : List V} {H : Hp} {Q : VK} {E : XK} (h : sp_Reader__take_if K vs H Q E) : vs.length = 2 := by
  obtain ⟨_, _, _, _, _, _, _, rfl, _⟩ := h
  rfl
theorem ok_Reader__take_if {f : Addr} {fd : FuncData} {f_Reader_ahead : Addr} {fd_Reader_ahead : FuncData} {f_Reader__refuse : Addr} {fd_Reader__refuse : FuncData} (F : Fun K "_take_if" "Reader._take_if" s_Reader__take_if f fd) (T : Gs K mg t_DIGITS t_LETTERS t_LONGEST_NAME a_DEEDS a_MARKS a_RESERVED a_SIGNS a_BadName a_BadPlan a_BadText a_ElseputError a_Plan a_Reader) (c_Reader_ahead : CalM P w K mg base CX0 2 a_Reader "ahead" f_Reader_ahead fd_Reader_ahead ["self"] (sp_Reader_ahead K)) (c_Reader__refuse : CalM P w K mg base (L2.CX P w) 3 a_Reader "_refuse" f_Reader__refuse fd_Reader__refuse ["self"] (sp_Reader__refuse K)) : FnOk P w K mg base (L2.CX P w) 4 f fd ["self", "fits"] (sp_Reader__take_if K) := by
  refine F.okX sc_Reader__take_if (fun vs H Q E h => len_Reader__take_if h) (fun cdv A outer s H vs Q E hr h => ?_)
  obtain ⟨a, p, num, e, toks, i, b, rfl, hR0, q⟩ := h
  obtain ⟨hR, hT, n0, n1, e0, e1⟩ := id hR0
  obtain ⟨C, dx, ts, hC, ha, hp, hts, hi⟩ := id hR
  cases hC.symm.trans T.n_Reader
  refine ⟨_, (Evl.pss_cut (ps_if (pt_not (pt_t K (v_ 1))) (pss_one (ps_expr (pe_meth0 (v_ 0) c_Reader__refuse.cl c_Reader__refuse.me c_Reader__refuse.G (hr.mono (by first | decide | omega)) c_Reader__refuse.b .nil (passes_call (takes_of rfl rfl rfl rfl) (fun _ _ _ _ h => h))))) pss_nil) (pss_cons (ps_set (i := 2) sc_Reader__take_if.nd rfl (.inl rfl) (pe_meth0 (v_ 0) c_Reader_ahead.cl c_Reader_ahead.me c_Reader_ahead.G (hr.mono (by first | decide | omega)) c_Reader_ahead.b .nil pass0)) (pss_cons (ps_fldaug (v_ 0) pe_int in_add) (pss_one (ps_ret (v_ 2)))))), ?_⟩
  refine ⟨fun σ' H' => b = true ∧ σ' = [some (.ref a), some (.bl b), none] ∧ H' = H, ?_, ?_⟩
  · cases b with
    | true => exact ⟨rfl, rfl, rfl⟩
    | false =>
      rw [if_neg (by decide)] at q
      exact ⟨a, dx, _, rfl, ha, rfl, a, p, num, e, toks, i, rfl, hR0, q⟩
  rintro σ' H' ⟨rfl, rfl, rfl⟩
  rw [if_pos rfl] at q
  obtain ⟨hlt, q⟩ := q
  refine ⟨a, dx, _, rfl, ha, rfl, a, p, num, e, toks, i, rfl, hR, ?_⟩
  refine ⟨a, a_Reader, dx, _, _, rfl, ha, T.cl_Reader, T.na_Reader__at, rfl, ?_⟩
  refine ⟨_, _, rfl, rfl, dx, _, ha, (by show 4 < 1000; decide), ?_⟩
  exact q _ (fun b o nb hb => by rw [upd_ne nb]; exact hb) (RdAt.on T.n_Reader ha hp hts hlt)
def sp_Reader_skip (K : PySem.W.Frag) : Sp := fun vs H Q _ => ∃ (a p : Addr) (num e : Int) (toks : Tks) (i : Nat) (z : Str), vs = [.ref a, .str z] ∧ RdAt K H a p num e toks i ∧ z.cps.toList ≠ [] ∧ (if tokAt toks i = z.cps.toList then Took K H a p num e toks i (.bl true) Q else Q (.bl false) H)
theorem len_Reader_skip {vs : List V} {H : Hp} {Q : VK} {E : XK} (h : sp_Reader_skip K vs H Q E) : vs.length = 2 := by
  obtain ⟨_, _, _, _, _, _, _, rfl, _⟩ := h
  rfl
theorem ok_Reader_skip {f : Addr} {fd : FuncData} {f_Reader_ahead : Addr} {fd_Reader_ahead : FuncData} (F : Fun K "skip" "Reader.skip" s_Reader_skip f fd) (T : Gs K mg t_DIGITS t_LETTERS t_LONGEST_NAME a_DEEDS a_MARKS a_RESERVED a_SIGNS a_BadName a_BadPlan a_BadText a_ElseputError a_Plan a_Reader) (c_Reader_ahead : CalM P w K mg base CX0 2 a_Reader "ahead" f_Reader_ahead fd_Reader_ahead ["self"] (sp_Reader_ahead K)) : FnOk P w K mg base CX0 3 f fd ["self", "token"] (sp_Reader_skip K) := by
  refine F.ok sc_Reader_skip (fun vs H Q E h => len_Reader_skip h) (fun cdv A outer s H vs Q E hr h => ?_)
  obtain ⟨a, p, num, e, toks, i, z, rfl, hR, hz, q⟩ := h
  obtain ⟨C, dx, ts, hC, ha, hp, hts, hi⟩ := id hR
  cases hC.symm.trans T.n_Reader
  refine ⟨_, (pss_cons (ps_if (pt_c (neK K hr.units) (pe_meth0 (v_ 0) c_Reader_ahead.cl c_Reader_ahead.me c_Reader_ahead.G (hr.mono (by first | decide | omega)) c_Reader_ahead.b .nil pass0) (v_ 1)) (pss_one (ps_ret pe_bl)) pss_nil) (pss_cons (ps_fldaug (v_ 0) pe_int in_add) (pss_one (ps_ret pe_bl)))), ?_⟩
  refine ⟨a, dx, _, rfl, ha, rfl, a, p, num, e, toks, i, rfl, hR, ?_⟩
  have hq : (mkS (tokAt toks i) = z) ↔ tokAt toks i = z.cps.toList := by rw [str_eq, mkS_cps]
  refine ite2 (fun e1 => ?_) (fun e1 => ?_)
  · have e1 : ¬ mkS (tokAt toks i) = z := by
      have e1 : (!decide (mkS (tokAt toks i) = z)) = true := e1
      rw [Bool.not_eq_true', decide_eq_false_iff_not] at e1
      exact e1
    rw [if_neg (fun h => e1 (hq.mpr h))] at q
    exact q
  · have e1 : mkS (tokAt toks i) = z := by
      have e1 : ¬ (!decide (mkS (tokAt toks i) = z)) = true := e1
      rw [Bool.not_eq_true, Bool.not_eq_false', decide_eq_true_iff] at e1
      exact e1
    rw [if_pos (hq.mp e1)] at q
    obtain ⟨hlt, q⟩ := q
    refine ⟨a, a_Reader, dx, _, _, rfl, ha, T.cl_Reader, T.na_Reader__at, rfl, ?_⟩
    refine ⟨_, _, rfl, rfl, dx, _, ha, (by show 4 < 1000; decide), ?_⟩
    exact q _ (fun b o nb hb => by rw [upd_ne nb]; exact hb) (RdAt.on T.n_Reader ha hp hts hlt)
def sp_Reader_take_end (K : PySem.W.Frag) : Sp := fun vs H Q E => ∃ (a p : Addr) (num e : Int) (toks : Tks) (i : Nat), vs = [.ref a] ∧ Rd0 K H a p num e toks i ∧ (if i = toks.length then Q .non H else BadAt K H num (colAt toks e i) E)
theorem len_Reader_take_end {vs : List V} {H : Hp} {Q : VK} {E : XK} (h : sp_Reader_take_end K vs H Q E) : vs.length = 1 := by
  obtain ⟨_, _, _, _, _, _, rfl, _⟩ := h
  rfl
theorem ok_Reader_take_end {f : Addr} {fd : FuncData} {f_Reader_at_end : Addr} {fd_Reader_at_end : FuncData} {f_Reader__refuse : Addr} {fd_Reader__refuse : FuncData} (F : Fun K "take_end" "Reader.take_end" s_Reader_take_end f fd) (T : Gs K mg t_DIGITS t_LETTERS t_LONGEST_NAME a_DEEDS a_MARKS a_RESERVED a_SIGNS a_BadName a_BadPlan a_BadText a_ElseputError a_Plan a_Reader) (c_Reader_at_end : CalM P w K mg base CX0 1 a_Reader "at_end" f_Reader_at_end fd_Reader_at_end ["self"] (sp_Reader_at_end K)) (c_Reader__refuse : CalM P w K mg base (L2.CX P w) 3 a_Reader "_refuse" f_Reader__refuse fd_Reader__refuse ["self"] (sp_Reader__refuse K)) : FnOk P w K mg base (L2.CX P w) 4 f fd ["self"] (sp_Reader_take_end K) := by
  refine F.okX sc_Reader_take_end (fun vs H Q E h => len_Reader_take_end h) (fun cdv A outer s H vs Q E hr h => ?_)
  obtain ⟨a, p, num, e, toks, i, rfl, hR0, q⟩ := h
  obtain ⟨hR, hT, n0, n1, e0, e1⟩ := id hR0
  obtain ⟨C, dx, ts, hC, ha, hp, hts, hi⟩ := id hR
  cases hC.symm.trans T.n_Reader
  refine ⟨_, (pss_one (ps_if (pt_not (pt_t K (pe_meth0 (v_ 0) c_Reader_at_end.cl c_Reader_at_end.me c_Reader_at_end.G (hr.mono (by first | decide | omega)) c_Reader_at_end.b .nil pass0))) (pss_one (ps_expr (pe_meth0 (v_ 0) c_Reader__refuse.cl c_Reader__refuse.me c_Reader__refuse.G (hr.mono (by first | decide | omega)) c_Reader__refuse.b .nil (passes_call (takes_of rfl rfl rfl rfl) (fun _ _ _ _ h => h))))) pss_nil)), ?_⟩
  refine ⟨a, dx, _, rfl, ha, rfl, a, p, num, e, toks, i, rfl, hR, ?_⟩
  refine ite2 (fun e1 => ?_) (fun e1 => ?_)
  · have e1 : ¬ i = toks.length := by
      have e1 : (!decide (i = toks.length)) = true := e1
      rw [Bool.not_eq_true', decide_eq_false_iff_not] at e1
      exact e1
    rw [if_neg e1] at q
    exact ⟨a, dx, _, rfl, ha, rfl, a, p, num, e, toks, i, rfl, hR0, q⟩
  · have e1 : i = toks.length := by
      have e1 : ¬ (!decide (i = toks.length)) = true := e1
      rw [Bool.not_eq_true, Bool.not_eq_false', decide_eq_true_iff] at e1
      exact e1
    rw [if_pos e1] at q
    exact q
end
section
variable {P : Program} {w : World} {K : PySem.W.Frag} {mg : Str → Option Value} {base : Heap}
variable {t_DIGITS t_LETTERS t_LONGEST_NAME : Tok} {a_DEEDS a_MARKS a_RESERVED a_SIGNS a_BadName a_BadPlan a_BadText a_ElseputError a_Plan a_Reader : Addr}
theorem Rd0.same {K : PySem.W.Frag} {H H' : Hp} {a p : Addr} {num e : Int} {toks : Tks} {i : Nat} (h : Rd0 K H a p num e toks i) (s : Same H H') : Rd0 K H' a p num e toks i := ⟨h.1.bt s, h.2⟩
theorem Rd0.to {K : PySem.W.Frag} {H H' : Hp} {a p : Addr} {num e : Int} {toks : Tks} {i j : Nat} (h : Rd0 K H a p num e toks i) (r : RdAt K H' a p num e toks j) : Rd0 K H' a p num e toks j := ⟨r, h.2⟩
theorem Took.same {K : PySem.W.Frag} {H H1 : Hp} {a p : Addr} {num e : Int} {toks : Tks} {i : Nat} {v : V} {Q : VK} (h : Took K H a p num e toks i v Q) (s : Same H H1) : Took K H1 a p num e toks i v Q := ⟨h.1, fun H' b r => h.2 H' ((Bt.same s).trans b) r⟩
theorem BadAt.same {K : PySem.W.Frag} {H H1 : Hp} {num col : Int} {E : XK} (h : BadAt K H num col E) (s : Same H H1) : BadAt K H1 num col E := fun C d H' hC s2 nd hd => h C d H' hC (s.trans s2) (Same.free s nd) hd
def sp_Reader_take_name (K : PySem.W.Frag) : Sp := fun vs H Q E => ∃ (a p : Addr) (num e : Int) (toks : Tks) (i : Nat), vs = [.ref a] ∧ Rd0 K H a p num e toks i ∧ (if isName (mkS (tokAt toks i)) = true then Took K H a p num e toks i (.str (mkS (tokAt toks i))) Q else BadAt K H num (colAt toks e i) E)
theorem len_Reader_take_name {vs : List V} {H : Hp} {Q : VK} {E : XK} (h : sp_Reader_take_name K vs H Q E) : vs.length = 1 := by
  obtain ⟨_, _, _, _, _, _, rfl, _⟩ := h
  rfl
theorem ok_Reader_take_name {f : Addr} {fd : FuncData} {f_is_name : Addr} {fd_is_name : FuncData} {f_Reader__take_if : Addr} {fd_Reader__take_if : FuncData} {f_Reader_ahead : Addr} {fd_Reader_ahead : FuncData} (F : Fun K "take_name" "Reader.take_name" s_Reader_take_name f fd) (T : Gs K mg t_DIGITS t_LETTERS t_LONGEST_NAME a_DEEDS a_MARKS a_RESERVED a_SIGNS a_BadName a_BadPlan a_BadText a_ElseputError a_Plan a_Reader) (c_is_name : Cal P w K mg base CX0 1 "is_name" f_is_name fd_is_name ["text"] (sp_is_name K)) (c_Reader__take_if : CalM P w K mg base (L2.CX P w) 4 a_Reader "_take_if" f_Reader__take_if fd_Reader__take_if ["self", "fits"] (sp_Reader__take_if K)) (c_Reader_ahead : CalM P w K mg base CX0 2 a_Reader "ahead" f_Reader_ahead fd_Reader_ahead ["self"] (sp_Reader_ahead K)) : FnOk P w K mg base (L2.CX P w) 5 f fd ["self"] (sp_Reader_take_name K) := by
  refine F.okX sc_Reader_take_name (fun vs H Q E h => len_Reader_take_name h) (fun cdv A outer s H vs Q E hr h => ?_)
  obtain ⟨a, p, num, e, toks, i, rfl, hR0, q⟩ := h
  obtain ⟨C, dx, ts, hC, ha, hp, hts, hi⟩ := id hR0.1
  cases hC.symm.trans T.n_Reader
  refine ⟨_, (pss_one (ps_ret (pe_meth (v_ 0) c_Reader__take_if.cl c_Reader__take_if.me c_Reader__take_if.G (hr.mono (by first | decide | omega)) c_Reader__take_if.b .nil (passes_call (takes_of rfl rfl rfl rfl) (fun _ _ _ _ h => h)) (pa_cons (pe_call c_is_name.G (hr.mono (by first | decide | omega)) rfl c_is_name.m c_is_name.kp c_is_name.b .nil pass0 (pa_cons (pe_meth0 (v_ 0) c_Reader_ahead.cl c_Reader_ahead.me c_Reader_ahead.G (hr.mono (by first | decide | omega)) c_Reader_ahead.b .nil pass0) pa_nil)) pa_nil)))), ?_⟩
  refine ⟨a, dx, _, rfl, ha, rfl, a, dx, _, rfl, ha, rfl, a, p, num, e, toks, i, rfl, hR0.1, _, rfl, by rw [mkS_len]; exact tokAt_le hR0.2.1, fun H1 s1 => ?_⟩
  refine ⟨a, p, num, e, toks, i, _, rfl, hR0.same s1, ?_⟩
  split
  · rename_i hn
    rw [if_pos hn] at q
    exact q.same s1
  · rename_i hn
    rw [if_neg hn] at q
    exact q.same s1
def sp_Reader_take_one (K : PySem.W.Frag) : Sp := fun vs H Q E => ∃ (a p w : Addr) (num e : Int) (toks : Tks) (i : Nat) (zs : List Str), vs = [.ref a, .ref w] ∧ Rd0 K H a p num e toks i ∧ SqT K H w (zs.map V.str) ∧ (if mkS (tokAt toks i) ∈ zs then Took K H a p num e toks i (.str (mkS (tokAt toks i))) Q else BadAt K H num (colAt toks e i) E)
theorem len_Reader_take_one {vs : List V} {H : Hp} {Q : VK} {E : XK} (h : sp_Reader_take_one K vs H Q E) : vs.length = 2 := by
  obtain ⟨_, _, _, _, _, _, _, _, rfl, _⟩ := h
  rfl
theorem ok_Reader_take_one {f : Addr} {fd : FuncData} {f_Reader__take_if : Addr} {fd_Reader__take_if : FuncData} {f_Reader_ahead : Addr} {fd_Reader_ahead : FuncData} (F : Fun K "take_one" "Reader.take_one" s_Reader_take_one f fd) (T : Gs K mg t_DIGITS t_LETTERS t_LONGEST_NAME a_DEEDS a_MARKS a_RESERVED a_SIGNS a_BadName a_BadPlan a_BadText a_ElseputError a_Plan a_Reader) (c_Reader__take_if : CalM P w K mg base (L2.CX P w) 4 a_Reader "_take_if" f_Reader__take_if fd_Reader__take_if ["self", "fits"] (sp_Reader__take_if K)) (c_Reader_ahead : CalM P w K mg base CX0 2 a_Reader "ahead" f_Reader_ahead fd_Reader_ahead ["self"] (sp_Reader_ahead K)) : FnOk P w K mg base (L2.CX P w) 5 f fd ["self", "words"] (sp_Reader_take_one K) := by
  refine F.okX sc_Reader_take_one (fun vs H Q E h => len_Reader_take_one h) (fun cdv A outer s H vs Q E hr h => ?_)
  obtain ⟨a, p, w, num, e, toks, i, zs, rfl, hR0, hw, q⟩ := h
  obtain ⟨C, dx, ts, hC, ha, hp, hts, hi⟩ := id hR0.1
  cases hC.symm.trans T.n_Reader
  refine ⟨_, (pss_one (ps_ret (pe_meth (v_ 0) c_Reader__take_if.cl c_Reader__take_if.me c_Reader__take_if.G (hr.mono (by first | decide | omega)) c_Reader__take_if.b .nil (passes_call (takes_of rfl rfl rfl rfl) (fun _ _ _ _ h => h)) (pa_cons (pe_c (inK K) (pe_meth0 (v_ 0) c_Reader_ahead.cl c_Reader_ahead.me c_Reader_ahead.G (hr.mono (by first | decide | omega)) c_Reader_ahead.b .nil pass0) (v_ 1)) pa_nil)))), ?_⟩
  refine ⟨a, dx, _, rfl, ha, rfl, a, dx, _, rfl, ha, rfl, a, p, num, e, toks, i, rfl, hR0.1, ?_⟩
  refine ⟨_, .inr hw, rfl, flat_strs, ?_⟩
  refine ⟨a, p, num, e, toks, i, decide (mkS (tokAt toks i) ∈ zs), ?_, hR0, ?_⟩
  · show [V.ref a, V.bl (inV (.str (mkS (tokAt toks i))) (zs.map V.str))] = _
    rw [inV_str]
  · split
    · rename_i hn
      rw [if_pos (of_decide_eq_true hn)] at q
      exact q
    · rename_i hn
      rw [if_neg (fun h => hn (decide_eq_true h))] at q
      exact q
def Inits (K : PySem.W.Frag) (H : Hp) (x : Addr) (z : Str) (num : Int) (Q : VK) (E : XK) : Prop := match splitL z.cps.toList 1 with
  | .ok l => ∀ (H' : Hp) (p : Addr), Bt x H H' → RdAt K H' x p num ((z.length : Int) + 1) l 0 → Q .non H'
  | .error c => BadAt K H num (c : Int) E
def sp_Reader___init__ (K : PySem.W.Frag) : Sp := fun vs H Q E => ∃ (x C dx : Addr) (z : Str) (num : Int), vs = [.ref x, .str z, .int num] ∧ PySem.W.nsIn K mainGlobals "Reader" = some (some (.ref C)) ∧ H x = some (.ins C dx []) ∧ z.length ≤ 20000 ∧ 0 ≤ num ∧ num ≤ 100000 ∧ Inits K H x z num Q E
theorem len_Reader___init__ {vs : List V} {H : Hp} {Q : VK} {E : XK} (h : sp_Reader___init__ K vs H Q E) : vs.length = 3 := by
  obtain ⟨_, _, _, _, _, rfl, _⟩ := h
  rfl
theorem ok_Reader___init__ {f : Addr} {fd : FuncData} {f_split_line : Addr} {fd_split_line : FuncData} (F : FunD K "__init__" "Reader.__init__" (defArgs s_Reader___init__) (defBody s_Reader___init__) (defScope s_Reader___init__) [(.int 1)] [] f fd) (T : Gs K mg t_DIGITS t_LETTERS t_LONGEST_NAME a_DEEDS a_MARKS a_RESERVED a_SIGNS a_BadName a_BadPlan a_BadText a_ElseputError a_Plan a_Reader) (c_split_line : Cal P w K mg base (L2.CX P w) 3 "split_line" f_split_line fd_split_line ["line", "number"] (sp_split_line K)) : FnOk P w K mg base (L2.CX P w) 4 f fd ["self", "line", "number"] (sp_Reader___init__ K) := by
  refine F.ok (CX := (L2.CX P w)) sc_Reader___init__ (fun vs H Q E h => len_Reader___init__ h) (fun cdv A outer s H vs Q E hr h => ?_)
  obtain ⟨x, C, dx, z, num, rfl, hC, hx, hz, n0, n1, q⟩ := h
  cases hC.symm.trans T.n_Reader
  refine ⟨_, (pss_cons (ps_fld (v_ 0) (pe_call c_split_line.G (hr.mono (by first | decide | omega)) rfl c_split_line.m c_split_line.kp c_split_line.b .nil (passes_call (takes_of rfl rfl rfl rfl) (fun _ _ _ _ h => h)) (pa_cons (v_ 1) (pa_cons (v_ 2) pa_nil))) (by rfl)) (pss_cons (ps_fld (v_ 0) (v_ 2) (by rfl)) (pss_cons (ps_fld (v_ 0) (pe_op (addK K) (pe_callB (lenK K) (by rfl) T.z_len PySem.boot_len (pa_cons (v_ 1) pa_nil)) pe_int) (by rfl)) (pss_one (ps_fld (v_ 0) pe_int (by rfl)))))), ?_⟩
  refine ⟨z, num, rfl, hz, n0, n1, ?_⟩
  unfold Inits at q
  unfold Splits
  cases hs : splitL z.cps.toList 1 with
  | error c =>
    rw [hs] at q
    exact q
  | ok l =>
    rw [hs] at q
    intro H1 p ts s1 np hp hts
    refine ⟨x, a_Reader, dx, _, rfl, s1 _ _ hx, T.cl_Reader, T.na_Reader__parts, by decide, ?_⟩
    refine ⟨x, a_Reader, dx, _, rfl, upd_same, T.cl_Reader, T.na_Reader__number, (by show 1 < 1000; decide), ?_⟩
    rw [upd_upd]
    refine ⟨line_of (by omega), ?_⟩
    refine ⟨x, a_Reader, dx, _, rfl, upd_same, T.cl_Reader, T.na_Reader__end, (by show 2 < 1000; decide), ?_⟩
    rw [upd_upd]
    refine ⟨x, a_Reader, dx, _, rfl, upd_same, T.cl_Reader, T.na_Reader__at, (by show 3 < 1000; decide), ?_⟩
    rw [upd_upd]
    refine q _ p (fun b o nb hb => by rw [upd_ne nb]; exact s1 _ _ hb) ⟨a_Reader, dx, ts, T.n_Reader, upd_same, ?_, hts.same fun b o ho hb => ?_, Nat.zero_le _⟩
    · rw [upd_ne (ne_of_none hx np).symm]
      exact hp
    · obtain ⟨z', i', rfl⟩ := ho
      rw [upd_ne (ne_of hb (s1 _ _ hx) (by intro e; cases e))]
      exact hb
/-- an error's place, all but the reader standing -/
def BadB (K : PySem.W.Frag) (a : Addr) (H : Hp) (num col : Int) (E : XK) : Prop := ∀ (C d : Addr) (H' : Hp), PySem.W.nsIn K mainGlobals "BadText" = some (some (.ref C)) → Bt a H H' → H d = none → H' d = some (.xd [("column", .int col), ("line", .int num)]) → E (.ref C) (some d) H'
theorem BadB.at {K : PySem.W.Frag} {a : Addr} {H H2 : Hp} {num col : Int} {E : XK} {o : HO} (q : BadB K a H num col E) (b : Bt a H H2) (ha : H2 a = some o) : BadAt K H2 num col E := fun C d H' hC s nd hd =>
  q C d H' hC (b.trans (Bt.same s)) (b.free (ne_of_none ha nd).symm nd) hd
theorem BadB.bt {K : PySem.W.Frag} {a : Addr} {H H2 : Hp} {num col : Int} {E : XK} (q : BadB K a H num col E) (b : Bt a H H2) (ha : ∃ o, H2 a = some o) : ∀ (C d : Addr) (H' : Hp), PySem.W.nsIn K mainGlobals "BadText" = some (some (.ref C)) → Bt a H2 H' → H2 d = none → H' d = some (.xd [("column", .int col), ("line", .int num)]) → E (.ref C) (some d) H' := fun C d H' hC s nd hd => by
  obtain ⟨o, ha⟩ := ha
  exact q C d H' hC (b.trans s) (b.free (ne_of_none ha nd).symm nd) hd
end
section
variable {P : Program} {w : World} {K : PySem.W.Frag} {mg : Str → Option Value} {base : Heap}
variable {t_DIGITS t_LETTERS t_LONGEST_NAME : Tok} {a_DEEDS a_MARKS a_RESERVED a_SIGNS a_BadName a_BadPlan a_BadText a_ElseputError a_Plan a_Reader : Addr}
/-! ### the tokens of a plan -/
inductive Sg where
  | deed | key | step | rows | first | more | behind | last | fin
structure Acc where
  g : Sg
  d : Str
  ps : List Stp
  l : List Str
  k : List Str
def nextT (ok : Str → Bool) (a : Acc) (z : Str) : Option Acc := match a.g with
  | .deed => if z ∈ deeds then some ⟨.key, z, a.ps, a.l, a.k⟩ else none
  | .key => if ok z = true then some ⟨.step, a.d, a.ps ++ [(a.d, z)], a.l, a.k⟩ else none
  | .step => if z = "," then some ⟨.deed, a.d, a.ps, a.l, a.k⟩ else if z = ";" then some ⟨.rows, a.d, a.ps, a.l, a.k⟩ else none
  | .rows => if z = "lock" then some ⟨.first, a.d, a.ps, a.l, a.k⟩ else if z = "keep" then some ⟨.last, a.d, a.ps, a.l, a.k⟩ else none
  | .first => if ok z = true then some ⟨.more, a.d, a.ps, a.l ++ [z], a.k⟩ else none
  | .more => if ok z = true then some ⟨.more, a.d, a.ps, a.l ++ [z], a.k⟩ else if z = ";" then some ⟨.behind, a.d, a.ps, a.l, a.k⟩ else none
  | .behind => if z = "keep" then some ⟨.last, a.d, a.ps, a.l, a.k⟩ else none
  | .last => if ok z = true then some ⟨.fin, a.d, a.ps, a.l, a.k ++ [z]⟩ else none
  | .fin => if ok z = true then some ⟨.fin, a.d, a.ps, a.l, a.k ++ [z]⟩ else none
def goT (ok : Str → Bool) (ws : List Str) : Nat → Option Acc
  | 0 => some ⟨.deed, Str.empty, [], [], []⟩
  | i + 1 => match goT ok ws i, ws[i]? with
    | some a, some z => nextT ok a z
    | _, _ => none
def okEnd : Sg → Bool
  | .step => true
  | .more => true
  | .fin => true
  | _ => false
def Stuck (ok : Str → Bool) (ws : List Str) (i : Nat) : Prop := ∃ a, goT ok ws i = some a ∧ ((i = ws.length ∧ okEnd a.g = false) ∨ ∃ z, ws[i]? = some z ∧ nextT ok a z = none)
theorem go_next {ok : Str → Bool} {ws : List Str} {i : Nat} {a : Acc} {z : Str} (h : goT ok ws i = some a) (e : ws[i]? = some z) : goT ok ws (i + 1) = nextT ok a z := by
  show (match goT ok ws i, ws[i]? with
    | some a, some z => nextT ok a z
    | _, _ => none) = _
  rw [h, e]
/-- the tokens as texts -/
def wsOf (toks : Tks) : List Str := toks.map fun x => mkS x.1
def tS (toks : Tks) (i : Nat) : Str := mkS (tokAt toks i)
theorem ws_len {toks : Tks} : (wsOf toks).length = toks.length := List.length_map _
theorem ws_at {toks : Tks} {i : Nat} (h : i < toks.length) : (wsOf toks)[i]? = some (tS toks i) := by
  unfold wsOf tS tokAt
  rw [List.getElem?_map, List.getElem?_eq_getElem h]
  rfl
theorem tS_end {toks : Tks} {i : Nat} (h : toks.length ≤ i) : tS toks i = mkS [] := by
  unfold tS
  rw [tokAt_end h]
theorem tS_len {toks : Tks} {i : Nat} (h : 0 < (tS toks i).length) : i < toks.length := by
  refine tokAt_lt fun e => ?_
  unfold tS at h
  rw [e] at h
  exact absurd h (by decide)
theorem name_lt {toks : Tks} {i : Nat} (h : isName (tS toks i) = true) : i < toks.length := tS_len (isName_mem h).2.1
theorem deed_len : ∀ z ∈ deeds, 0 < z.length := by decide +kernel
theorem deed_lt {toks : Tks} {i : Nat} (h : tS toks i ∈ deeds) : i < toks.length := tS_len (deed_len _ h)
theorem stuck_at {ok : Str → Bool} {toks : Tks} {i : Nat} {a : Acc} (h : goT ok (wsOf toks) i = some a) (hi : i ≤ toks.length) (e : i = toks.length → okEnd a.g = false) (n : i < toks.length → nextT ok a (tS toks i) = none) : Stuck ok (wsOf toks) i := by
  refine ⟨a, h, ?_⟩
  by_cases c : i = toks.length
  · exact .inl ⟨by rw [ws_len]; exact c, e c⟩
  · exact .inr ⟨_, ws_at (by omega), n (by omega)⟩
def slice (toks : Tks) (i j : Nat) : List Str := ((wsOf toks).take j).drop i
theorem slice_snoc {toks : Tks} {i j : Nat} (h : i ≤ j) (hj : j < toks.length) : slice toks i (j + 1) = slice toks i j ++ [tS toks j] := by
  unfold slice
  rw [take_snoc (ws_at hj), List.drop_append_of_le_length (by rw [List.length_take, ws_len]; omega)]
theorem slice_nil {toks : Tks} {i : Nat} : slice toks i i = [] := by
  unfold slice
  exact List.drop_of_length_le (by rw [List.length_take]; omega)
theorem slice_len {toks : Tks} {i j : Nat} : (slice toks i j).length ≤ toks.length := by
  unfold slice
  rw [List.length_drop, List.length_take, ws_len]
  omega
theorem go_lock {toks : Tks} {i : Nat} {a : Acc} (h : goT isName (wsOf toks) i = some a) (ha : a.g = .first) : ∀ n, i + n < toks.length → (∀ m, i ≤ m → m < i + n + 1 → isName (tS toks m) = true) → goT isName (wsOf toks) (i + n + 1) = some ⟨.more, a.d, a.ps, a.l ++ slice toks i (i + n + 1), a.k⟩
  | 0, hn, hm => by
    rw [go_next h (ws_at hn)]
    unfold nextT
    rw [ha]
    show (if isName (tS toks i) = true then _ else _) = _
    rw [if_pos (hm i (Nat.le_refl _) (by omega)), slice_snoc (by omega) hn]
    show _ = some (Acc.mk _ _ _ (a.l ++ (slice toks i i ++ [tS toks i])) _)
    rw [slice_nil]
    rfl
  | n + 1, hn, hm => by
    have ih := go_lock h ha n (by omega) fun m h1 h2 => hm m h1 (by omega)
    rw [show i + (n + 1) + 1 = (i + n + 1) + 1 by omega, go_next ih (ws_at (by omega))]
    unfold nextT
    show (if isName (tS toks (i + n + 1)) = true then _ else _) = _
    rw [if_pos (hm _ (by omega) (by omega)), slice_snoc (j := i + n + 1) (by omega) (by omega), List.append_assoc]
theorem go_keep {toks : Tks} {i : Nat} {a : Acc} (h : goT isName (wsOf toks) i = some a) (ha : a.g = .last) : ∀ n, i + n < toks.length → (∀ m, i ≤ m → m < i + n + 1 → isName (tS toks m) = true) → goT isName (wsOf toks) (i + n + 1) = some ⟨.fin, a.d, a.ps, a.l, a.k ++ slice toks i (i + n + 1)⟩
  | 0, hn, hm => by
    rw [go_next h (ws_at hn)]
    unfold nextT
    rw [ha]
    show (if isName (tS toks i) = true then _ else _) = _
    rw [if_pos (hm i (Nat.le_refl _) (by omega)), slice_snoc (by omega) hn]
    show _ = some (Acc.mk _ _ _ _ (a.k ++ (slice toks i i ++ [tS toks i])))
    rw [slice_nil]
    rfl
  | n + 1, hn, hm => by
    have ih := go_keep h ha n (by omega) fun m h1 h2 => hm m h1 (by omega)
    rw [show i + (n + 1) + 1 = (i + n + 1) + 1 by omega, go_next ih (ws_at (by omega))]
    unfold nextT
    show (if isName (tS toks (i + n + 1)) = true then _ else _) = _
    rw [if_pos (hm _ (by omega) (by omega)), slice_snoc (j := i + n + 1) (by omega) (by omega), List.append_assoc]
theorem RdAt.put {K : PySem.W.Frag} {H : Hp} {a p L : Addr} {num e : Int} {toks : Tks} {i : Nat} {xs : List V} {o : HO} (h : RdAt K H a p num e toks i) (hL : H L = some (.lst xs)) (na : L ≠ a) (np : L ≠ p) : RdAt K (upd H L o) a p num e toks i := by
  obtain ⟨C, dx, ts, h1, h2, h3, h4, h5⟩ := h
  refine ⟨C, dx, ts, h1, by rw [upd_ne na.symm]; exact h2, by rw [upd_ne np.symm]; exact h3, h4.same fun b o ho hb => ?_, h5⟩
  obtain ⟨z, n, rfl⟩ := ho
  rw [upd_ne (ne_of hb hL (by intro e; cases e))]
  exact hb
end
section
variable {P : Program} {w : World} {K : PySem.W.Frag} {mg : Str → Option Value} {base : Heap}
variable {t_DIGITS t_LETTERS t_LONGEST_NAME : Tok} {a_DEEDS a_MARKS a_RESERVED a_SIGNS a_BadName a_BadPlan a_BadText a_ElseputError a_Plan a_Reader : Addr}
/-! ### parse_step, parse_keys -/
def sp_parse_step (K : PySem.W.Frag) : Sp := fun vs H Q E => ∃ (a p : Addr) (num e : Int) (toks : Tks) (i : Nat), vs = [.ref a] ∧ Rd0 K H a p num e toks i ∧ (tS toks i ∉ deeds → BadB K a H num (colAt toks e i) E) ∧ (tS toks i ∈ deeds → ¬ isName (tS toks (i + 1)) = true → BadB K a H num (colAt toks e (i + 1)) E) ∧
  (tS toks i ∈ deeds → isName (tS toks (i + 1)) = true → ∀ H' v, Bt a H H' → RdAt K H' a p num e toks (i + 2) → PairAt K H' v (tS toks i, tS toks (i + 1)) → Q v H')
theorem len_parse_step {vs : List V} {H : Hp} {Q : VK} {E : XK} (h : sp_parse_step K vs H Q E) : vs.length = 1 := by
  obtain ⟨_, _, _, _, _, _, rfl, _⟩ := h
  rfl
theorem ok_parse_step {f : Addr} {fd : FuncData} {f_Reader_take_one : Addr} {fd_Reader_take_one : FuncData} {f_Reader_take_name : Addr} {fd_Reader_take_name : FuncData} (F : Fun K "parse_step" "parse_step" s_parse_step f fd) (T : Gs K mg t_DIGITS t_LETTERS t_LONGEST_NAME a_DEEDS a_MARKS a_RESERVED a_SIGNS a_BadName a_BadPlan a_BadText a_ElseputError a_Plan a_Reader) (c_Reader_take_one : CalM P w K mg base (L2.CX P w) 5 a_Reader "take_one" f_Reader_take_one fd_Reader_take_one ["self", "words"] (sp_Reader_take_one K)) (c_Reader_take_name : CalM P w K mg base (L2.CX P w) 5 a_Reader "take_name" f_Reader_take_name fd_Reader_take_name ["self"] (sp_Reader_take_name K)) : FnOk P w K mg base (L2.CX P w) 6 f fd ["reader"] (sp_parse_step K) := by
  refine F.okX sc_parse_step (fun vs H Q E h => len_parse_step h) (fun cdv A outer s H vs Q E hr h => ?_)
  obtain ⟨a, p, num, e, toks, i, rfl, hR0, q1, q2, q3⟩ := h
  obtain ⟨C, dx, ts, hC, ha, hp, hts, hi⟩ := id hR0.1
  cases hC.symm.trans T.n_Reader
  refine ⟨_, (pss_cons (ps_set (i := 1) sc_parse_step.nd rfl (.inl rfl) (pe_meth (v_ 0) c_Reader_take_one.cl c_Reader_take_one.me c_Reader_take_one.G (hr.mono (by first | decide | omega)) c_Reader_take_one.b .nil (passes_call (takes_of rfl rfl rfl rfl) (fun _ _ _ _ h => h)) (pa_cons (pe_glob (v := .ref a_DEEDS) rfl T.g_DEEDS rfl) pa_nil))) (pss_one (ps_ret (pe_tup (pa_cons (v_ 1) (pa_cons (pe_meth0 (v_ 0) c_Reader_take_name.cl c_Reader_take_name.me c_Reader_take_name.G (hr.mono (by first | decide | omega)) c_Reader_take_name.b .nil (passes_call (takes_of rfl rfl rfl rfl) (fun _ _ _ _ h => h))) pa_nil)))))), ?_⟩
  refine ⟨a, dx, _, rfl, ha, rfl, a, p, a_DEEDS, num, e, toks, i, deeds, rfl, hR0, T.q_DEEDS _, ?_⟩
  by_cases hd : tS toks i ∈ deeds
  · rw [if_pos (show mkS (tokAt toks i) ∈ deeds from hd)]
    refine ⟨deed_lt hd, fun H1 b1 r1 => ?_⟩
    obtain ⟨C1, dx1, ts1, hC1, ha1, _⟩ := id r1
    cases hC1.symm.trans T.n_Reader
    refine ⟨a, dx1, _, rfl, ha1, rfl, a, p, num, e, toks, i + 1, rfl, hR0.to r1, ?_⟩
    by_cases hn : isName (tS toks (i + 1)) = true
    · rw [if_pos (show isName (mkS (tokAt toks (i + 1))) = true from hn)]
      refine ⟨name_lt hn, fun H2 b2 r2 => ⟨(by show 2 ≤ sizeLine; decide), fun t nt => ?_⟩⟩
      have s3 := same_new (o := .tup [.str (mkS (tokAt toks i)), .str (mkS (tokAt toks (i + 1)))]) nt
      exact q3 hd hn _ _ ((b1.trans b2).trans (Bt.same s3)) (r2.bt s3) pair_new
    · rw [if_neg (show ¬ isName (mkS (tokAt toks (i + 1))) = true from hn)]
      exact (q2 hd hn).at b1 ha1
  · rw [if_neg (show mkS (tokAt toks i) ∉ deeds from hd)]
    exact (q1 hd).at (Bt.refl a H) ha
def sp_parse_keys (K : PySem.W.Frag) : Sp := fun vs H Q E => ∃ (a p : Addr) (num e : Int) (toks : Tks) (i : Nat), vs = [.ref a] ∧ Rd0 K H a p num e toks i ∧ toks.length ≤ 1000 ∧
  (∀ j, i ≤ j → (∀ m, i ≤ m → m < j → isName (tS toks m) = true) → ¬ isName (tS toks j) = true → (j = i ∨ (j < toks.length ∧ tS toks j ≠ ";")) → BadB K a H num (colAt toks e j) E) ∧
  (∀ j, i < j → j ≤ toks.length → (∀ m, i ≤ m → m < j → isName (tS toks m) = true) → (j = toks.length ∨ tS toks j = ";") → ∀ H' D, Bt a H H' → RdAt K H' a p num e toks j → H D = none → D ≠ a → H' D = some (.lst ((slice toks i j).map V.str)) → Q (.ref D) H')
theorem len_parse_keys {vs : List V} {H : Hp} {Q : VK} {E : XK} (h : sp_parse_keys K vs H Q E) : vs.length = 1 := by
  obtain ⟨_, _, _, _, _, _, rfl, _⟩ := h
  rfl
theorem ok_parse_keys {f : Addr} {fd : FuncData} {f_Reader_take_name : Addr} {fd_Reader_take_name : FuncData} {f_Reader_at_end : Addr} {fd_Reader_at_end : FuncData} {f_Reader_ahead : Addr} {fd_Reader_ahead : FuncData} (F : Fun K "parse_keys" "parse_keys" s_parse_keys f fd) (T : Gs K mg t_DIGITS t_LETTERS t_LONGEST_NAME a_DEEDS a_MARKS a_RESERVED a_SIGNS a_BadName a_BadPlan a_BadText a_ElseputError a_Plan a_Reader) (c_Reader_take_name : CalM P w K mg base (L2.CX P w) 5 a_Reader "take_name" f_Reader_take_name fd_Reader_take_name ["self"] (sp_Reader_take_name K)) (c_Reader_at_end : CalM P w K mg base CX0 1 a_Reader "at_end" f_Reader_at_end fd_Reader_at_end ["self"] (sp_Reader_at_end K)) (c_Reader_ahead : CalM P w K mg base CX0 2 a_Reader "ahead" f_Reader_ahead fd_Reader_ahead ["self"] (sp_Reader_ahead K)) : FnOk P w K mg base (L2.CX P w) 6 f fd ["reader"] (sp_parse_keys K) := by
  refine F.okX sc_parse_keys (fun vs H Q E h => len_parse_keys h) (fun cdv A outer s H vs Q E hr h => ?_)
  obtain ⟨a, p, num, e, toks, i, rfl, hR0, few, q1, q2⟩ := h
  obtain ⟨C, dx, ts, hC, ha, hp, hts, hi⟩ := id hR0.1
  cases hC.symm.trans T.n_Reader
  refine ⟨_, (pss_cons (ps_set (i := 1) sc_parse_keys.nd rfl (.inl rfl) (pe_lst (pa_cons (pe_meth0 (v_ 0) c_Reader_take_name.cl c_Reader_take_name.me c_Reader_take_name.G (hr.mono (by first | decide | omega)) c_Reader_take_name.b .nil (passes_call (takes_of rfl rfl rfl rfl) (fun _ _ _ _ h => h))) pa_nil))) (pss_cons (ps_while (passes_of rfl) (PW.pt (pw_and (pt_not (pt_t K (pe_meth0 (v_ 0) c_Reader_at_end.cl c_Reader_at_end.me c_Reader_at_end.G (hr.mono (by first | decide | omega)) c_Reader_at_end.b .nil pass0))) (pw_and1 (pt_c (neK K hr.units) (pe_meth0 (v_ 0) c_Reader_ahead.cl c_Reader_ahead.me c_Reader_ahead.G (hr.mono (by first | decide | omega)) c_Reader_ahead.b .nil pass0) pe_str)))) (pss_one (ps_expr (pe_bm PySem.F.plainAttrs_list PySem.F.slot_list_append PySem.F.type_list_append mt_append (v_ 1) (pa_cons (pe_meth0 (v_ 0) c_Reader_take_name.cl c_Reader_take_name.me c_Reader_take_name.G (hr.mono (by first | decide | omega)) c_Reader_take_name.b .nil (passes_call (takes_of rfl rfl rfl rfl) (fun _ _ _ _ h => h))) pa_nil))))) (pss_one (ps_ret (v_ 1))))), ?_⟩
  refine ⟨a, dx, _, rfl, ha, rfl, a, p, num, e, toks, i, rfl, hR0, ?_⟩
  by_cases hn : ¬ isName (tS toks i) = true
  · rw [if_neg (show ¬ isName (mkS (tokAt toks i)) = true from hn)]
    exact (q1 i (Nat.le_refl _) (fun m h1 h2 => absurd h1 (by omega)) hn (.inl rfl)).at (Bt.refl a H) ha
  have hn := Decidable.not_not.mp hn
  rw [if_pos (show isName (mkS (tokAt toks i)) = true from hn)]
  refine ⟨name_lt hn, fun H1 b1 r1 => ?_⟩
  have ilt := name_lt hn
  refine ⟨(by show 1 ≤ sizeLine; decide), fun D nD => ?_⟩
  have sD := same_new (o := .lst [.str (mkS (tokAt toks i))]) nD
  obtain ⟨C1, dx1, ts1, hC1, ha1, hp1, _⟩ := id r1
  have Da : D ≠ a := (ne_of_none ha1 nD).symm
  have Dp : D ≠ p := (ne_of_none hp1 nD).symm
  have D0 : H D = none := b1.free Da nD
  refine ⟨fun n σ' H' => ∃ j, n = toks.length - j ∧ i < j ∧ j ≤ toks.length ∧ (∀ m, i ≤ m → m < j → isName (tS toks m) = true) ∧ σ' = [some (.ref a), some (.ref D)] ∧ (∀ b o, b ≠ a → b ≠ D → H b = some o → H' b = some o) ∧ RdAt K H' a p num e toks j ∧ H' D = some (.lst ((slice toks i j).map V.str)), ⟨_, i + 1, rfl, by omega, by omega, fun m h1 h2 => by rw [show m = i by omega]; exact hn, rfl, fun b o n1 n2 hb => sD _ _ (b1 b o n1 hb), r1.bt sD, ?_⟩, ?_⟩
  · rw [upd_same, slice_snoc (Nat.le_refl _) ilt, slice_nil]
    rfl
  rintro n σ' H' ⟨j, rfl, hij, hj, hm, rfl, hb, hR, hD⟩
  obtain ⟨C2, dx2, ts2, hC2, ha2, hp2, hts2, hi2⟩ := id hR
  cases hC2.symm.trans T.n_Reader
  have bt : Bt a H H' := fun b o n1 hb' => hb b o n1 (ne_of_none hb' D0) hb'
  have stop : (j = toks.length ∨ tS toks j = ";") → Q (.ref D) H' := fun h => q2 j hij hj hm h H' D bt hR D0 Da hD
  refine ⟨a, dx2, _, rfl, ha2, rfl, a, p, num, e, toks, j, rfl, hR, ?_⟩
  refine ite2 (fun c => ?_) (fun c => ?_)
  · have c : ¬ j = toks.length := by
      have c : (!decide (j = toks.length)) = true := c
      rw [Bool.not_eq_true', decide_eq_false_iff_not] at c
      exact c
    refine ⟨a, dx2, _, rfl, ha2, rfl, a, p, num, e, toks, j, rfl, hR, ?_⟩
    refine ite2 (fun c2 => ?_) (fun c2 => ?_)
    · have c2 : ¬ tS toks j = ";" := by
        have c2 : (!decide (mkS (tokAt toks j) = ";")) = true := c2
        rw [Bool.not_eq_true', decide_eq_false_iff_not] at c2
        exact c2
      refine ⟨fun σ2 H2 => ∃ m', m' < toks.length - j ∧ ∃ j, m' = toks.length - j ∧ i < j ∧ j ≤ toks.length ∧ (∀ m, i ≤ m → m < j → isName (tS toks m) = true) ∧ σ2 = [some (.ref a), some (.ref D)] ∧ (∀ b o, b ≠ a → b ≠ D → H b = some o → H2 b = some o) ∧ RdAt K H2 a p num e toks j ∧ H2 D = some (.lst ((slice toks i j).map V.str)), fun _ _ h => h, ?_⟩
      refine ⟨.inl ⟨rfl, _, SqL.of hD⟩, a, dx2, _, rfl, ha2, rfl, a, p, num, e, toks, j, rfl, hR0.to hR, ?_⟩
      by_cases hn2 : isName (tS toks j) = true
      · rw [if_pos (show isName (mkS (tokAt toks j)) = true from hn2)]
        refine ⟨name_lt hn2, fun H3 b3 r3 => ?_⟩
        have hD3 := b3 _ _ Da hD
        have sl := slice_len (toks := toks) (i := i) (j := j)
        refine ⟨D, _, _, rfl, rfl, hD3, line_lt (by rw [List.length_map]; omega), ?_⟩
        refine ⟨toks.length - (j + 1), by omega, j + 1, rfl, by omega, by omega, fun m h1 h2 => ?_, rfl, fun b o n1 n2 hb' => ?_, r3.put hD3 Da Dp, ?_⟩
        · by_cases z : m = j
          · rw [z]; exact hn2
          · exact hm m h1 (by omega)
        · rw [upd_ne n2]
          exact b3 b o n1 (hb b o n1 n2 hb')
        · rw [upd_same, slice_snoc (by omega) (by omega), List.map_append]
          rfl
      · rw [if_neg (show ¬ isName (mkS (tokAt toks j)) = true from hn2)]
        exact (q1 j (by omega) hm hn2 (.inr ⟨by omega, c2⟩)).at bt ha2
    · have c2 : tS toks j = ";" := by
        have c2 : ¬ (!decide (mkS (tokAt toks j) = ";")) = true := c2
        rw [Bool.not_eq_true, Bool.not_eq_false', decide_eq_true_iff] at c2
        exact c2
      exact stop (.inr c2)
  · have c : j = toks.length := by
      have c : ¬ (!decide (j = toks.length)) = true := c
      rw [Bool.not_eq_true, Bool.not_eq_false', decide_eq_true_iff] at c
      exact c
    exact stop (.inl c)
end
section
variable {P : Program} {w : World} {K : PySem.W.Frag} {mg : Str → Option Value} {base : Heap}
variable {t_DIGITS t_LETTERS t_LONGEST_NAME : Tok} {a_DEEDS a_MARKS a_RESERVED a_SIGNS a_BadName a_BadPlan a_BadText a_ElseputError a_Plan a_Reader : Addr}
/-! ### parse_plan -/
theorem cm_cps : ("," : Str).cps.toList = [44] := by decide +kernel
theorem tok_is {toks : Tks} {i : Nat} {z : Str} : tokAt toks i = z.cps.toList ↔ tS toks i = z := by
  unfold tS
  rw [str_eq, mkS_cps]
theorem sg_ne : (";" : Str) ≠ "," ∧ isName ";" = false ∧ isName (mkS []) = false ∧ ("keep" : Str) ≠ "lock" := by decide +kernel
theorem not_end {toks : Tks} {i : Nat} {z : Str} (h : tS toks i = z) (n : 0 < z.length) : i < toks.length := tS_len (by rw [h]; exact n)
theorem nx_step {ok : Str → Bool} {a : Acc} {z : Str} (h : a.g = .step) : nextT ok a z = if z = "," then some ⟨.deed, a.d, a.ps, a.l, a.k⟩ else if z = ";" then some ⟨.rows, a.d, a.ps, a.l, a.k⟩ else none := by
  unfold nextT; rw [h]
theorem nx_deed {ok : Str → Bool} {a : Acc} {z : Str} (h : a.g = .deed) : nextT ok a z = if z ∈ deeds then some ⟨.key, z, a.ps, a.l, a.k⟩ else none := by
  unfold nextT; rw [h]
theorem nx_key {ok : Str → Bool} {a : Acc} {z : Str} (h : a.g = .key) : nextT ok a z = if ok z = true then some ⟨.step, a.d, a.ps ++ [(a.d, z)], a.l, a.k⟩ else none := by
  unfold nextT; rw [h]
theorem nx_rows {ok : Str → Bool} {a : Acc} {z : Str} (h : a.g = .rows) : nextT ok a z = if z = "lock" then some ⟨.first, a.d, a.ps, a.l, a.k⟩ else if z = "keep" then some ⟨.last, a.d, a.ps, a.l, a.k⟩ else none := by
  unfold nextT; rw [h]
theorem nx_first {ok : Str → Bool} {a : Acc} {z : Str} (h : a.g = .first) : nextT ok a z = if ok z = true then some ⟨.more, a.d, a.ps, a.l ++ [z], a.k⟩ else none := by
  unfold nextT; rw [h]
theorem nx_more {ok : Str → Bool} {a : Acc} {z : Str} (h : a.g = .more) : nextT ok a z = if ok z = true then some ⟨.more, a.d, a.ps, a.l ++ [z], a.k⟩ else if z = ";" then some ⟨.behind, a.d, a.ps, a.l, a.k⟩ else none := by
  unfold nextT; rw [h]
theorem nx_behind {ok : Str → Bool} {a : Acc} {z : Str} (h : a.g = .behind) : nextT ok a z = if z = "keep" then some ⟨.last, a.d, a.ps, a.l, a.k⟩ else none := by
  unfold nextT; rw [h]
theorem nx_last {ok : Str → Bool} {a : Acc} {z : Str} (h : a.g = .last ∨ a.g = .fin) : nextT ok a z = if ok z = true then some ⟨.fin, a.d, a.ps, a.l, a.k ++ [z]⟩ else none := by
  unfold nextT; rcases h with h | h <;> rw [h]
/-- behind a row of names from i to j: a name is missing there -/
theorem stuck_lock {toks : Tks} {i j : Nat} {a : Acc} (h : goT isName (wsOf toks) i = some a) (ha : a.g = .first) (hi : i ≤ toks.length) (hij : i ≤ j) (hm : ∀ m, i ≤ m → m < j → isName (tS toks m) = true) (hn : ¬ isName (tS toks j) = true) (hj : j = i ∨ (j < toks.length ∧ tS toks j ≠ ";")) : Stuck isName (wsOf toks) j := by
  by_cases c : j = i
  · subst c
    exact stuck_at h hi (fun _ => by rw [ha]; rfl) fun _ => by rw [nx_first ha, if_neg hn]
  · obtain ⟨h1, h2⟩ := hj.resolve_left c
    have g := go_lock h ha (j - i - 1) (by omega) (by rw [show i + (j - i - 1) + 1 = j by omega]; exact hm)
    rw [show i + (j - i - 1) + 1 = j by omega] at g
    exact stuck_at g (by omega) (fun e => absurd e (by omega)) fun _ => by rw [nx_more rfl, if_neg hn, if_neg h2]
theorem stuck_keep {toks : Tks} {i j : Nat} {a : Acc} (h : goT isName (wsOf toks) i = some a) (ha : a.g = .last) (hi : i ≤ toks.length) (hij : i ≤ j) (hm : ∀ m, i ≤ m → m < j → isName (tS toks m) = true) (hn : ¬ isName (tS toks j) = true) (hj : j = i ∨ (j < toks.length ∧ tS toks j ≠ ";")) : Stuck isName (wsOf toks) j := by
  by_cases c : j = i
  · subst c
    exact stuck_at h hi (fun _ => by rw [ha]; rfl) fun _ => by rw [nx_last (.inl ha), if_neg hn]
  · obtain ⟨h1, h2⟩ := hj.resolve_left c
    have g := go_keep h ha (j - i - 1) (by omega) (by rw [show i + (j - i - 1) + 1 = j by omega]; exact hm)
    rw [show i + (j - i - 1) + 1 = j by omega] at g
    exact stuck_at g (by omega) (fun e => absurd e (by omega)) fun _ => by rw [nx_last (.inr rfl), if_neg hn]
theorem go_two {toks : Tks} {i : Nat} {a : Acc} (h : goT isName (wsOf toks) i = some a) (ha : a.g = .deed) (h1 : tS toks i ∈ deeds) (h2 : isName (tS toks (i + 1)) = true) : goT isName (wsOf toks) (i + 2) = some ⟨.step, tS toks i, a.ps ++ [(tS toks i, tS toks (i + 1))], a.l, a.k⟩ := by
  have g := go_next h (ws_at (deed_lt h1))
  rw [nx_deed ha, if_pos h1] at g
  have g2 := go_next g (ws_at (name_lt h2))
  rw [nx_key rfl, if_pos h2] at g2
  exact g2
theorem stuck_deed {toks : Tks} {i : Nat} {a : Acc} (h : goT isName (wsOf toks) i = some a) (ha : a.g = .deed) (hi : i ≤ toks.length) (h1 : tS toks i ∉ deeds) : Stuck isName (wsOf toks) i :=
  stuck_at h hi (fun _ => by rw [ha]; rfl) fun _ => by rw [nx_deed ha, if_neg h1]
theorem stuck_key {toks : Tks} {i : Nat} {a : Acc} (h : goT isName (wsOf toks) i = some a) (ha : a.g = .deed) (h1 : tS toks i ∈ deeds) (h2 : ¬ isName (tS toks (i + 1)) = true) : Stuck isName (wsOf toks) (i + 1) := by
  have lt := deed_lt h1
  have g := go_next h (ws_at lt)
  rw [nx_deed ha, if_pos h1] at g
  exact stuck_at g (by omega) (fun _ => rfl) fun _ => by rw [nx_key rfl, if_neg h2]
def sp_parse_plan (K : PySem.W.Frag) : Sp := fun vs H Q E => ∃ (a p : Addr) (num e : Int) (toks : Tks), vs = [.ref a] ∧ Rd0 K H a p num e toks 0 ∧ toks.length ≤ 1000 ∧ (∀ i, Stuck isName (wsOf toks) i → BadB K a H num (colAt toks e i) E) ∧
  (∀ c, goT isName (wsOf toks) toks.length = some c → okEnd c.g = true → ∀ (H' : Hp) (t R L M : Addr), Bt a H H' → H' t = some (.tup [.ref R, .ref L, .ref M]) → (∃ us, H' R = some (.lst us) ∧ PairsIn K H' us c.ps) → H' L = some (.lst (c.l.map V.str)) → H' M = some (.lst (c.k.map V.str)) → Q (.ref t) H')
theorem len_parse_plan {vs : List V} {H : Hp} {Q : VK} {E : XK} (h : sp_parse_plan K vs H Q E) : vs.length = 1 := by
  obtain ⟨_, _, _, _, _, rfl, _⟩ := h
  rfl
theorem ok_parse_plan {f : Addr} {fd : FuncData} {f_parse_step : Addr} {fd_parse_step : FuncData} {f_parse_keys : Addr} {fd_parse_keys : FuncData} {f_Reader_skip : Addr} {fd_Reader_skip : FuncData} {f_Reader_take_end : Addr} {fd_Reader_take_end : FuncData} {f_Reader_take_one : Addr} {fd_Reader_take_one : FuncData} (F : Fun K "parse_plan" "parse_plan" s_parse_plan f fd) (T : Gs K mg t_DIGITS t_LETTERS t_LONGEST_NAME a_DEEDS a_MARKS a_RESERVED a_SIGNS a_BadName a_BadPlan a_BadText a_ElseputError a_Plan a_Reader) (c_parse_step : Cal P w K mg base (L2.CX P w) 6 "parse_step" f_parse_step fd_parse_step ["reader"] (sp_parse_step K)) (c_parse_keys : Cal P w K mg base (L2.CX P w) 6 "parse_keys" f_parse_keys fd_parse_keys ["reader"] (sp_parse_keys K)) (c_Reader_skip : CalM P w K mg base CX0 3 a_Reader "skip" f_Reader_skip fd_Reader_skip ["self", "token"] (sp_Reader_skip K)) (c_Reader_take_end : CalM P w K mg base (L2.CX P w) 4 a_Reader "take_end" f_Reader_take_end fd_Reader_take_end ["self"] (sp_Reader_take_end K)) (c_Reader_take_one : CalM P w K mg base (L2.CX P w) 5 a_Reader "take_one" f_Reader_take_one fd_Reader_take_one ["self", "words"] (sp_Reader_take_one K)) : FnOk P w K mg base (L2.CX P w) 7 f fd ["reader"] (sp_parse_plan K) := by
  refine F.okX sc_parse_plan (fun vs H Q E h => len_parse_plan h) (fun cdv A outer s H vs Q E hr h => ?_)
  obtain ⟨a, p, num, e, toks, rfl, hR0, few, qe, q⟩ := h
  obtain ⟨C, dx, ts, hC, ha, hp, hts, hi⟩ := id hR0.1
  cases hC.symm.trans T.n_Reader
  refine ⟨_, (pss_cons (ps_set (i := 1) sc_parse_plan.nd rfl (.inl rfl) (pe_lst (pa_cons (pe_call c_parse_step.G (hr.mono (by first | decide | omega)) rfl c_parse_step.m c_parse_step.kp c_parse_step.b .nil (passes_call (takes_of rfl rfl rfl rfl) (fun _ _ _ _ h => h)) (pa_cons (v_ 0) pa_nil)) pa_nil))) (pss_cons (ps_while (passes_of rfl) (pt_t K (pe_meth (v_ 0) c_Reader_skip.cl c_Reader_skip.me c_Reader_skip.G (hr.mono (by first | decide | omega)) c_Reader_skip.b .nil pass0 (pa_cons pe_str pa_nil))) (pss_one (ps_expr (pe_bm PySem.F.plainAttrs_list PySem.F.slot_list_append PySem.F.type_list_append mt_append (v_ 1) (pa_cons (pe_call c_parse_step.G (hr.mono (by first | decide | omega)) rfl c_parse_step.m c_parse_step.kp c_parse_step.b .nil (passes_call (takes_of rfl rfl rfl rfl) (fun _ _ _ _ h => h)) (pa_cons (v_ 0) pa_nil)) pa_nil))))) (pss_cons (ps_set (i := 2) sc_parse_plan.nd rfl (.inl rfl) (pe_lst pa_nil)) (pss_cons (ps_set (i := 3) sc_parse_plan.nd rfl (.inl rfl) (pe_lst pa_nil)) (pss_cons (ps_set (i := 4) sc_parse_plan.nd rfl (.inl rfl) (pe_meth (v_ 0) c_Reader_skip.cl c_Reader_skip.me c_Reader_skip.G (hr.mono (by first | decide | omega)) c_Reader_skip.b .nil pass0 (pa_cons pe_str pa_nil))) (Evl.pss_cut (ps_if (PW.pt (pw_and (pt_t K (v_ 4)) (pw_and1 (pt_t K (pe_meth (v_ 0) c_Reader_skip.cl c_Reader_skip.me c_Reader_skip.G (hr.mono (by first | decide | omega)) c_Reader_skip.b .nil pass0 (pa_cons pe_str pa_nil)))))) (pss_cons (ps_set (i := 2) sc_parse_plan.nd rfl (.inl rfl) (pe_call c_parse_keys.G (hr.mono (by first | decide | omega)) rfl c_parse_keys.m c_parse_keys.kp c_parse_keys.b .nil (passes_call (takes_of rfl rfl rfl rfl) (fun _ _ _ _ h => h)) (pa_cons (v_ 0) pa_nil))) (pss_one (ps_set (i := 4) sc_parse_plan.nd rfl (.inl rfl) (pe_meth (v_ 0) c_Reader_skip.cl c_Reader_skip.me c_Reader_skip.G (hr.mono (by first | decide | omega)) c_Reader_skip.b .nil pass0 (pa_cons pe_str pa_nil))))) pss_nil) (Evl.pss_cut (ps_if (pt_t K (v_ 4)) (pss_cons (ps_expr (pe_meth (v_ 0) c_Reader_take_one.cl c_Reader_take_one.me c_Reader_take_one.G (hr.mono (by first | decide | omega)) c_Reader_take_one.b .nil (passes_call (takes_of rfl rfl rfl rfl) (fun _ _ _ _ h => h)) (pa_cons (pe_tup (pa_cons pe_str pa_nil)) pa_nil))) (pss_one (ps_set (i := 3) sc_parse_plan.nd rfl (.inl rfl) (pe_call c_parse_keys.G (hr.mono (by first | decide | omega)) rfl c_parse_keys.m c_parse_keys.kp c_parse_keys.b .nil (passes_call (takes_of rfl rfl rfl rfl) (fun _ _ _ _ h => h)) (pa_cons (v_ 0) pa_nil))))) pss_nil) (pss_cons (ps_expr (pe_meth0 (v_ 0) c_Reader_take_end.cl c_Reader_take_end.me c_Reader_take_end.G (hr.mono (by first | decide | omega)) c_Reader_take_end.b .nil (passes_call (takes_of rfl rfl rfl rfl) (fun _ _ _ _ h => h)))) (pss_one (ps_ret (pe_tup (pa_cons (v_ 1) (pa_cons (v_ 2) (pa_cons (v_ 3) pa_nil)))))))))))))), ?_⟩
  have bad : ∀ {H2 : Hp} {i : Nat}, Bt a H H2 → (∃ o, H2 a = some o) → Stuck isName (wsOf toks) i → BadB K a H2 num (colAt toks e i) E := fun b ho st C d H' hC s nd hd => by
    obtain ⟨o, ho⟩ := ho
    exact qe _ st C d H' hC (b.trans s) (b.free (ne_of_none ho nd).symm nd) hd
  have na : ∀ {H2 : Hp} {i : Nat}, RdAt K H2 a p num e toks i → ∃ o, H2 a = some o := fun ⟨_, _, _, _, h, _⟩ => ⟨_, h⟩
  have g0 : goT isName (wsOf toks) 0 = some ⟨.deed, Str.empty, [], [], []⟩ := rfl
  refine ⟨a, p, num, e, toks, 0, rfl, hR0, fun h => bad (Bt.refl a H) ⟨_, ha⟩ (stuck_deed g0 rfl (Nat.zero_le _) h), fun h1 h2 => bad (Bt.refl a H) ⟨_, ha⟩ (stuck_key g0 rfl h1 h2), fun h1 h2 H1 v b1 r1 hv => ?_⟩
  have g2 := go_two g0 rfl h1 h2
  have lt2 : 2 ≤ toks.length := by have := name_lt h2; omega
  refine ⟨(by show 1 ≤ sizeLine; decide), fun D nD => ?_⟩
  have sD := same_new (o := .lst [v]) nD
  obtain ⟨C1, dx1, ts1, hC1, ha1, hp1, _⟩ := id r1
  have Da : D ≠ a := (ne_of_none ha1 nD).symm
  have Dp : D ≠ p := (ne_of_none hp1 nD).symm
  have D0 : H D = none := b1.free Da nD
  have ntA : ∀ {H2 : Hp} {i : Nat}, RdAt K H2 a p num e toks i → NT H2 a := fun ⟨_, _, _, _, h, _⟩ => NT.ins h
  refine ⟨fun n σ' H' => ∃ (i : Nat) (c : Acc) (us : List V), n = toks.length - i ∧ i ≤ toks.length ∧ goT isName (wsOf toks) i = some c ∧ c.g = .step ∧ c.l = [] ∧ c.k = [] ∧ c.ps.length ≤ i ∧ σ' = [some (.ref a), some (.ref D), none, none, none] ∧ (∀ b o, b ≠ a → b ≠ D → H b = some o → H' b = some o) ∧ RdAt K H' a p num e toks i ∧ H' D = some (.lst us) ∧ PairsIn K H' us c.ps, ⟨_, 2, _, [v], rfl, lt2, g2, rfl, rfl, rfl, (by show 1 ≤ 2; decide), rfl, fun b o n1 n2 hb => sD _ _ (b1 b o n1 hb), r1.bt sD, upd_same, .cons (pair_same hv sD) .nil⟩, ?_⟩
  rintro n σ' H' ⟨i, c, us, rfl, il, gc, cg, cl, ck, cn, rfl, hb, hR, hD, hus⟩
  obtain ⟨C2, dx2, ts2, hC2, ha2, hp2, hts2, hi2⟩ := id hR
  cases hC2.symm.trans T.n_Reader
  have bt : Bt a H H' := fun b o n1 hb' => hb b o n1 (ne_of_none hb' D0) hb'
  have ul := pairs_len hus
  refine ⟨a, dx2, _, rfl, ha2, rfl, a, p, num, e, toks, i, ",", rfl, hR, by rw [cm_cps]; decide, ?_⟩
  by_cases hc : tokAt toks i = ("," : Str).cps.toList
  · rw [if_pos hc]
    have ht : tS toks i = "," := tok_is.mp hc
    have lt := not_end ht (by decide +kernel)
    have g3 := go_next gc (ws_at lt)
    rw [nx_step cg, if_pos ht] at g3
    refine ⟨lt, fun H2 b2 r2 => ?_⟩
    have hD2 := b2 _ _ Da hD
    have hus2 := pairs_bt hus (ntA hR) b2
    have bt2 := bt.trans b2
    refine ⟨fun σ2 H2 => ∃ m', m' < toks.length - i ∧ ∃ (i : Nat) (c : Acc) (us : List V), m' = toks.length - i ∧ i ≤ toks.length ∧ goT isName (wsOf toks) i = some c ∧ c.g = .step ∧ c.l = [] ∧ c.k = [] ∧ c.ps.length ≤ i ∧ σ2 = [some (.ref a), some (.ref D), none, none, none] ∧ (∀ b o, b ≠ a → b ≠ D → H b = some o → H2 b = some o) ∧ RdAt K H2 a p num e toks i ∧ H2 D = some (.lst us) ∧ PairsIn K H2 us c.ps, fun _ _ h => h, ?_⟩
    refine ⟨.inl ⟨rfl, _, SqL.of hD2⟩, a, p, num, e, toks, i + 1, rfl, hR0.to r2, fun h => bad bt2 (na r2) (stuck_deed g3 rfl (by omega) h), fun h1 h2 => bad bt2 (na r2) (stuck_key g3 rfl h1 h2), fun h1 h2 H3 v3 b3 r3 hv3 => ?_⟩
    have g4 := go_two g3 rfl h1 h2
    have lt4 := name_lt h2
    have hD3 := b3 _ _ Da hD2
    have hus3 := pairs_bt hus2 (ntA r2) b3
    refine ⟨D, us, v3, rfl, rfl, hD3, line_lt (by omega), ?_⟩
    have ntD := NT.lst (H := H3) (st := D) ⟨_, hD3⟩
    refine ⟨toks.length - (i + 1 + 2), by omega, i + 1 + 2, _, us ++ [v3], rfl, by omega, g4, rfl, cl, ck, by rw [List.length_append]; show c.ps.length + 1 ≤ _; omega, rfl, fun b o n1 n2 hb' => ?_, r3.put hD3 Da Dp, upd_same, pairs_snoc (pairs_bt hus3 ntD Bt.st) (pair_bt hv3 ntD Bt.st)⟩
    rw [upd_ne n2]
    exact b3 b o n1 (b2 b o n1 (hb b o n1 n2 hb'))
  rw [if_neg hc]
  have nc : tS toks i ≠ "," := fun h => hc (tok_is.mpr h)
  refine ⟨Nat.zero_le _, fun L nL => ?_⟩
  have sL := same_new (o := .lst []) nL
  refine ⟨Nat.zero_le _, fun M nM => ?_⟩
  have sM := same_new (o := .lst []) nM
  have sLM := sL.trans sM
  have eL := sM _ _ (upd_same (H := H') (a := L) (o := .lst []))
  have eM : (upd (upd H' L (.lst [])) M (.lst [])) M = some (.lst []) := upd_same
  have La : L ≠ a := (ne_of_none ha2 nL).symm
  have Ma : M ≠ a := (ne_of_none (sL _ _ ha2) nM).symm
  have hR3 := hR.bt sLM
  have hD3 := sLM _ _ hD
  have hus3 := pairs_same hus sLM
  have bt3 := bt.trans (Bt.same sLM)
  generalize upd (upd H' L (.lst [])) M (.lst []) = H3 at eL eM hR3 hD3 hus3 bt3 ⊢
  clear sL sM sLM nL nM hR hD hus ha2 hp2 hts2 hb
  obtain ⟨C3, dx3, ts3, hC3, ha3, _⟩ := id hR3
  cases hC3.symm.trans T.n_Reader
  refine ⟨a, dx3, _, rfl, ha3, rfl, a, p, num, e, toks, i, ";", rfl, hR3, by decide +kernel, ?_⟩
  have fin : ∀ (H5 : Hp) (j : Nat) (c2 : Acc) (L' M' : Addr), Bt a H H5 → RdAt K H5 a p num e toks j → goT isName (wsOf toks) j = some c2 → j ≤ toks.length → okEnd c2.g = true → (j < toks.length → nextT isName c2 (tS toks j) = none) → (∃ us, H5 D = some (.lst us) ∧ PairsIn K H5 us c2.ps) → H5 L' = some (.lst (c2.l.map V.str)) → H5 M' = some (.lst (c2.k.map V.str)) →
      (if j = toks.length then (3 ≤ sizeLine ∧ ∀ t, H5 t = none → Q (.ref t) (upd H5 t (.tup [.ref D, .ref L', .ref M']))) else BadAt K H5 num (colAt toks e j) E) := fun H5 j c2 L' M' b5 r5 g5 jl ok5 nn hDs hLs hMs => by
    by_cases z : j = toks.length
    · rw [if_pos z]
      subst z
      refine ⟨by decide, fun t nt => ?_⟩
      have st := same_new (o := .tup [.ref D, .ref L', .ref M']) nt
      obtain ⟨us5, e5, h5⟩ := hDs
      exact q c2 g5 ok5 _ t D L' M' (b5.trans (Bt.same st)) upd_same ⟨us5, st _ _ e5, pairs_same h5 st⟩ (st _ _ hLs) (st _ _ hMs)
    · rw [if_neg z]
      obtain ⟨o, ho⟩ := na r5
      exact (bad b5 ⟨o, ho⟩ (stuck_at g5 jl (fun h => absurd h z) nn)).at (Bt.refl a H5) ho
  by_cases hs : tokAt toks i = (";" : Str).cps.toList
  rotate_left
  · rw [if_neg hs]
    have ns : tS toks i ≠ ";" := fun h => hs (tok_is.mpr h)
    refine ⟨fun σ' H' => σ' = [some (.ref a), some (.ref D), some (.ref L), some (.ref M), some (.bl false)] ∧ H' = H3, ⟨rfl, rfl⟩, ?_⟩
    rintro σ' H4 ⟨rfl, rfl⟩
    refine ⟨fun σ' H' => σ' = [some (.ref a), some (.ref D), some (.ref L), some (.ref M), some (.bl false)] ∧ H' = H4, ⟨rfl, rfl⟩, ?_⟩
    rintro σ' H5 ⟨rfl, rfl⟩
    refine ⟨a, dx3, _, rfl, ha3, rfl, a, p, num, e, toks, i, rfl, hR0.to hR3, ?_⟩
    exact fin H5 i c L M bt3 hR3 gc il (by rw [cg]; rfl) (fun _ => by rw [nx_step cg, if_neg nc, if_neg ns]) ⟨us, hD3, hus3⟩ (by rw [cl]; exact eL) (by rw [ck]; exact eM)
  rw [if_pos hs]
  have ts : tS toks i = ";" := tok_is.mp hs
  have lt := not_end ts (by decide +kernel)
  have g3 := go_next gc (ws_at lt)
  rw [nx_step cg, if_neg nc, if_pos ts] at g3
  refine ⟨lt, fun H4 b4 r4 => ?_⟩
  have hD4 := b4 _ _ Da hD3
  have hus4 := pairs_bt hus3 (ntA hR3) b4
  have eL4 := b4 _ _ La eL
  have eM4 := b4 _ _ Ma eM
  have bt4 := bt3.trans b4
  clear hD3 hus3 eL eM b4 hR3 bt3 ha3
  obtain ⟨C4, dx4, ts4, hC4, ha4, _⟩ := id r4
  cases hC4.symm.trans T.n_Reader
  refine ⟨fun σ' H' => ∃ (mo : Bool) (j : Nat) (c3 : Acc) (L' : Addr) (us : List V), σ' = [some (.ref a), some (.ref D), some (.ref L'), some (.ref M), some (.bl mo)] ∧ Bt a H H' ∧ RdAt K H' a p num e toks j ∧ goT isName (wsOf toks) j = some c3 ∧ j ≤ toks.length ∧ H' D = some (.lst us) ∧ PairsIn K H' us c3.ps ∧ H' L' = some (.lst (c3.l.map V.str)) ∧ L' ≠ a ∧ H' M = some (.lst []) ∧ c3.k = [] ∧ (mo = false → okEnd c3.g = true ∧ j = toks.length) ∧ (mo = true → (c3.g = .rows ∧ tS toks j ≠ "lock") ∨ c3.g = .behind), ?_, ?_⟩
  · refine ⟨a, dx4, _, rfl, ha4, rfl, a, p, num, e, toks, i + 1, "lock", rfl, r4, by decide +kernel, ?_⟩
    by_cases hl : tokAt toks (i + 1) = ("lock" : Str).cps.toList
    · rw [if_pos hl]
      have tl : tS toks (i + 1) = "lock" := tok_is.mp hl
      have lt5 := not_end tl (by decide +kernel)
      have g5 := go_next g3 (ws_at lt5)
      rw [nx_rows rfl, if_pos tl] at g5
      refine ⟨lt5, fun H5 b5 r5 => ?_⟩
      have hD5 := b5 _ _ Da hD4
      have hus5 := pairs_bt hus4 (ntA r4) b5
      have eM5 := b5 _ _ Ma eM4
      have bt5 := bt4.trans b5
      refine ⟨a, p, num, e, toks, i + 1 + 1, rfl, hR0.to r5, few, fun j h1 h2 h3 h4 => bad bt5 (na r5) (stuck_lock g5 rfl (by omega) h1 h2 h3 h4), fun j h1 h2 h3 h4 H6 D6 b6 r6 nD6 D6a e6 => ?_⟩
      have g6 := go_lock g5 rfl (j - (i + 1 + 1) - 1) (by omega) (by rw [show i + 1 + 1 + (j - (i + 1 + 1) - 1) + 1 = j by omega]; exact h3)
      rw [show i + 1 + 1 + (j - (i + 1 + 1) - 1) + 1 = j by omega] at g6
      have hD6 := b6 _ _ Da hD5
      have hus6 := pairs_bt hus5 (ntA r5) b6
      have eM6 := b6 _ _ Ma eM5
      have bt6 := bt5.trans b6
      have e6 : H6 D6 = some (.lst ((c.l ++ slice toks (i + 1 + 1) j).map V.str)) := by rw [cl]; exact e6
      obtain ⟨C6, dx6, ts6, hC6, ha6, _⟩ := id r6
      cases hC6.symm.trans T.n_Reader
      refine ⟨a, dx6, _, rfl, ha6, rfl, a, p, num, e, toks, j, ";", rfl, r6, by decide +kernel, ?_⟩
      by_cases h7 : tokAt toks j = (";" : Str).cps.toList
      · rw [if_pos h7]
        have t7 : tS toks j = ";" := tok_is.mp h7
        have lt7 := not_end t7 (by decide +kernel)
        have g7 := go_next g6 (ws_at lt7)
        rw [nx_more rfl, t7, if_neg (by rw [sg_ne.2.1]; decide), if_pos rfl] at g7
        refine ⟨lt7, fun H7 b7 r7 => ?_⟩
        exact ⟨true, j + 1, _, D6, us, rfl, bt6.trans b7, r7, g7, by omega, b7 _ _ Da hD6, pairs_bt hus6 (ntA r6) b7, b7 _ _ D6a e6, D6a, b7 _ _ Ma eM6, ck, (fun h => by cases h), fun _ => .inr rfl⟩
      · rw [if_neg h7]
        have jl : j = toks.length := h4.resolve_right fun h => h7 (tok_is.mpr h)
        exact ⟨false, j, _, D6, us, rfl, bt6, r6, g6, by omega, hD6, hus6, e6, D6a, eM6, ck, fun _ => ⟨rfl, jl⟩, fun h => by cases h⟩
    · rw [if_neg hl]
      exact ⟨true, i + 1, _, L, us, rfl, bt4, r4, g3, by omega, hD4, hus4, (by show _ = some (HO.lst (c.l.map V.str)); rw [cl]; exact eL4), La, eM4, ck, (fun h => by cases h), fun _ => .inl ⟨rfl, fun h => hl (tok_is.mpr h)⟩⟩
  clear hD4 hus4 eL4 eM4 bt4 r4 g3 ha4
  rintro σ' H5 ⟨mo, j, c3, L', us5, rfl, bt5, r5, g5, jl, hD5, hus5, eL5, La5, eM5, ck5, m0, m1⟩
  refine ⟨fun σ' H' => ∃ (mo : Option V) (j : Nat) (c3 : Acc) (L' M' : Addr), σ' = [some (.ref a), some (.ref D), some (.ref L'), some (.ref M'), mo] ∧ Bt a H H' ∧ RdAt K H' a p num e toks j ∧ goT isName (wsOf toks) j = some c3 ∧ j ≤ toks.length ∧ okEnd c3.g = true ∧ (j < toks.length → nextT isName c3 (tS toks j) = none) ∧ (∃ us, H' D = some (.lst us) ∧ PairsIn K H' us c3.ps) ∧ H' L' = some (.lst (c3.l.map V.str)) ∧ H' M' = some (.lst (c3.k.map V.str)), ?_, ?_⟩
  · cases mo with
    | false =>
      obtain ⟨h1, h2⟩ := m0 rfl
      exact ⟨_, j, c3, L', M, rfl, bt5, r5, g5, jl, h1, fun h => absurd h (by omega), ⟨us5, hD5, hus5⟩, eL5, by rw [ck5]; exact eM5⟩
    | true =>
      have m1 := m1 rfl
      obtain ⟨C5, dx5, ts5, hC5, ha5, _⟩ := id r5
      cases hC5.symm.trans T.n_Reader
      refine ⟨a, dx5, _, rfl, ha5, rfl, (by show 1 ≤ sizeLine; decide), fun T1 nT => ?_⟩
      have sT := same_new (o := .tup [.str "keep"]) nT
      refine ⟨a, p, T1, num, e, toks, j, ["keep"], rfl, hR0.to (r5.bt sT), SqT.of upd_same, ?_⟩
      have r6 := r5.bt sT
      have hD6 := sT _ _ hD5
      have hus6 := pairs_same hus5 sT
      have eL6 := sT _ _ eL5
      have bt6 := bt5.trans (Bt.same sT)
      generalize upd H5 T1 (.tup [.str "keep"]) = H6 at r6 hD6 hus6 eL6 bt6 ⊢
      by_cases hk : mkS (tokAt toks j) ∈ (["keep"] : List Str)
      · rw [if_pos hk]
        have tk7 : tS toks j = "keep" := List.mem_singleton.mp hk
        have lt7 := not_end tk7 (by decide +kernel)
        have g7 : goT isName (wsOf toks) (j + 1) = some ⟨.last, c3.d, c3.ps, c3.l, c3.k⟩ := by
          have g7 := go_next g5 (ws_at lt7)
          rcases m1 with ⟨h1, h2⟩ | h1
          · rw [nx_rows h1, if_neg h2, if_pos tk7] at g7
            exact g7
          · rw [nx_behind h1, if_pos tk7] at g7
            exact g7
        refine ⟨lt7, fun H7 b7 r7 => ?_⟩
        have hD7 := b7 _ _ Da hD6
        have hus7 := pairs_bt hus6 (ntA r6) b7
        have eL7 := b7 _ _ La5 eL6
        have bt7 := bt6.trans b7
        refine ⟨a, p, num, e, toks, j + 1, rfl, hR0.to r7, few, fun m h1 h2 h3 h4 => bad bt7 (na r7) (stuck_keep g7 rfl (by omega) h1 h2 h3 h4), fun m h1 h2 h3 h4 H8 D8 b8 r8 nD8 D8a e8 => ?_⟩
        have g8 := go_keep g7 rfl (m - (j + 1) - 1) (by omega) (by rw [show j + 1 + (m - (j + 1) - 1) + 1 = m by omega]; exact h3)
        rw [show j + 1 + (m - (j + 1) - 1) + 1 = m by omega] at g8
        refine ⟨_, m, _, L', D8, rfl, bt7.trans b8, r8, g8, by omega, rfl, fun h => ?_, ⟨us5, b8 _ _ Da hD7, pairs_bt hus7 (ntA r7) b8⟩, b8 _ _ La5 eL7, (by show _ = some (HO.lst ((c3.k ++ slice toks (j + 1) m).map V.str)); rw [ck5]; exact e8)⟩
        rw [nx_last (.inr rfl), h4.resolve_left (by omega), if_neg (by rw [sg_ne.2.1]; decide)]
      · rw [if_neg hk]
        have nk : tS toks j ≠ "keep" := fun h => hk (List.mem_singleton.mpr h)
        obtain ⟨o, ho⟩ := na r6
        refine (bad bt6 ⟨o, ho⟩ (stuck_at g5 jl (fun _ => ?_) fun _ => ?_)).at (Bt.refl a H6) ho
        · rcases m1 with ⟨h1, _⟩ | h1 <;> rw [h1] <;> rfl
        · rcases m1 with ⟨h1, h2⟩ | h1
          · rw [nx_rows h1, if_neg h2, if_neg nk]
          · rw [nx_behind h1, if_neg nk]
  rintro σ' H6 ⟨y, m, c6, L6, M6, rfl, bt6, r6, g6, ml, ok6, nn6, hD6, eL6, eM6⟩
  obtain ⟨C6, dx6, ts6, hC6, ha6, _⟩ := id r6
  cases hC6.symm.trans T.n_Reader
  refine ⟨a, dx6, _, rfl, ha6, rfl, a, p, num, e, toks, m, rfl, hR0.to r6, ?_⟩
  exact fin H6 m c6 L6 M6 bt6 r6 g6 ml ok6 nn6 hD6 eL6 eM6
end
section
variable {P : Program} {w : World} {K : PySem.W.Frag} {mg : Str → Option Value} {base : Heap}
variable {t_DIGITS t_LETTERS t_LONGEST_NAME : Tok} {a_DEEDS a_MARKS a_RESERVED a_SIGNS a_BadName a_BadPlan a_BadText a_ElseputError a_Plan a_Reader : Addr}
/-! ### the text of a plan -/
theorem app_assoc (a b c : Str) : a ++ b ++ c = a ++ (b ++ c) := str_eq.mpr (by rw [cps_add, cps_add, cps_add, cps_add, List.append_assoc])
theorem app_empty (a : Str) : a ++ Str.empty = a := str_eq.mpr (by rw [cps_add, show Str.empty.cps.toList = [] from rfl, List.append_nil])
theorem empty_add (a : Str) : Str.empty ++ a = a := str_eq.mpr (by rw [cps_add]; rfl)
theorem one_sp : (" " : Str).length = 1 := by decide +kernel
theorem cm_len : (", " : Str).length = 2 := by decide +kernel
theorem sc_len : ("; " : Str).length = 2 := by decide +kernel
theorem sum_le {α : Type} {f : α → Nat} {B : Nat} : ∀ {l : List α}, (∀ x ∈ l, f x ≤ B) → (l.map f).sum ≤ l.length * B
  | [], _ => by simp
  | a :: r, h => by
    have h1 := h a List.mem_cons_self
    have h2 := sum_le (l := r) fun x hx => h x (List.mem_cons_of_mem _ hx)
    rw [List.map_cons, List.sum_cons, List.length_cons, Nat.succ_mul]
    omega
def stx (p : Stp) : Str := p.1 ++ " " ++ p.2
def jst (ps : List Stp) : Str := Str.join ", " (ps.map stx)
def wtx (w : Str) (zs : List Str) : Str := if zs = [] then Str.empty else "; " ++ (w ++ (" " ++ Str.join " " zs))
def txt (ps : List Stp) (lk kp : List Str) : Str := jst ps ++ wtx "lock" lk ++ wtx "keep" kp
def optT (w : Str) (zs : List Str) : List Str := if zs = [] then [] else [Str.join " " (w :: zs)]
theorem join_w {w z : Str} {r : List Str} : Str.join " " (w :: z :: r) = w ++ (" " ++ Str.join " " (z :: r)) := app_assoc w " " (Str.join " " (z :: r))
theorem parts_txt {ps : List Stp} {lk kp : List Str} : Str.join "; " ([jst ps] ++ optT "lock" lk ++ optT "keep" kp) = txt ps lk kp := by
  unfold txt
  cases lk with
  | nil =>
    show Str.join "; " ([jst ps] ++ optT "keep" kp) = jst ps ++ Str.empty ++ wtx "keep" kp
    rw [app_empty]
    cases kp with
    | nil => exact (app_empty _).symm
    | cons z r =>
      show jst ps ++ "; " ++ Str.join " " ("keep" :: z :: r) = _
      rw [join_w, app_assoc]
      rfl
  | cons y t =>
    cases kp with
    | nil =>
      show jst ps ++ "; " ++ Str.join " " ("lock" :: y :: t) = jst ps ++ wtx "lock" (y :: t) ++ Str.empty
      rw [join_w, app_assoc, app_empty]
      rfl
    | cons z r =>
      show jst ps ++ "; " ++ (Str.join " " ("lock" :: y :: t) ++ "; " ++ Str.join " " ("keep" :: z :: r)) = jst ps ++ wtx "lock" (y :: t) ++ wtx "keep" (z :: r)
      rw [join_w, join_w]
      show _ = jst ps ++ ("; " ++ ("lock" ++ (" " ++ Str.join " " (y :: t)))) ++ ("; " ++ ("keep" ++ (" " ++ Str.join " " (z :: r))))
      simp only [app_assoc]
/-- sizes -/
def Shrt (ps : List Stp) (lk kp : List Str) : Prop := ps.length ≤ 100 ∧ lk.length ≤ 100 ∧ kp.length ≤ 100 ∧ (∀ s ∈ ps, s.1.length ≤ 4 ∧ s.2.length ≤ 12) ∧ (∀ z ∈ lk, z.length ≤ 12) ∧ ∀ z ∈ kp, z.length ≤ 12
theorem stx_len {p : Stp} (h : p.1.length ≤ 4 ∧ p.2.length ≤ 12) : (stx p).length ≤ 17 := by
  unfold stx
  rw [len_add, len_add, one_sp]
  omega
theorem join_len {y : Str} {B : Nat} : ∀ {zs : List Str}, (∀ z ∈ zs, z.length ≤ B) → (Str.join y zs).length ≤ zs.length * (B + y.length)
  | [], _ => Nat.zero_le _
  | [z], h => by
    have := h z List.mem_cons_self
    show z.length ≤ 1 * (B + y.length)
    omega
  | x :: z :: r, h => by
    have h1 := h x List.mem_cons_self
    have ih := join_len (y := y) (zs := z :: r) fun u hu => h u (List.mem_cons_of_mem _ hu)
    show (x ++ y ++ Str.join y (z :: r)).length ≤ _
    rw [len_add, len_add, List.length_cons, Nat.succ_mul]
    omega
theorem jst_len {ps : List Stp} (h : ∀ s ∈ ps, s.1.length ≤ 4 ∧ s.2.length ≤ 12) (l : ps.length ≤ 100) : (jst ps).length ≤ 1900 := by
  have := join_len (y := ", ") (B := 17) (zs := ps.map stx) fun z hz => by
    obtain ⟨s, hs, rfl⟩ := List.mem_map.mp hz
    exact stx_len (h s hs)
  rw [List.length_map, cm_len] at this
  unfold jst
  omega
theorem jsp_len {zs : List Str} (h : ∀ z ∈ zs, z.length ≤ 12) (l : zs.length ≤ 101) : (Str.join " " zs).length ≤ 1313 := by
  have := join_len (y := " ") (B := 12) h
  rw [one_sp] at this
  omega
theorem txt_len {ps : List Stp} {lk kp : List Str} (h : Shrt ps lk kp) : (txt ps lk kp).length ≤ 5000 := by
  obtain ⟨h1, h2, h3, h4, h5, h6⟩ := h
  have a := jst_len h4 h1
  have w : ∀ (w : Str) (zs : List Str), w.length ≤ 4 → (∀ z ∈ zs, z.length ≤ 12) → zs.length ≤ 100 → (wtx w zs).length ≤ 1330 := fun w zs hw hz hl => by
    unfold wtx
    split
    · decide
    · have := jsp_len hz (by omega)
      rw [len_add, len_add, len_add, one_sp, sc_len]
      omega
  have b := w "lock" lk (by decide +kernel) h5 h2
  have c := w "keep" kp (by decide +kernel) h6 h3
  unfold txt
  rw [len_add, len_add]
  omega
def sp_Plan_text (K : PySem.W.Frag) : Sp := fun vs H Q _ => ∃ (a : Addr) (ps : List Stp) (lk kp : List Str), vs = [.ref a] ∧ PlAt K H a ps lk kp ∧ Shrt ps lk kp ∧ ∀ H', Same H H' → Q (.str (txt ps lk kp)) H'
theorem len_Plan_text {vs : List V} {H : Hp} {Q : VK} {E : XK} (h : sp_Plan_text K vs H Q E) : vs.length = 1 := by
  obtain ⟨_, _, _, _, rfl, _⟩ := h
  rfl
theorem two_w : ("lock" : Str).length ≤ 12 ∧ ("keep" : Str).length ≤ 12 := by decide +kernel
theorem ok_Plan_text {f : Addr} {fd : FuncData} (F : Fun K "text" "Plan.text" s_Plan_text f fd) (T : Gs K mg t_DIGITS t_LETTERS t_LONGEST_NAME a_DEEDS a_MARKS a_RESERVED a_SIGNS a_BadName a_BadPlan a_BadText a_ElseputError a_Plan a_Reader) : FnOk P w K mg base CX0 1 f fd ["self"] (sp_Plan_text K) := by
  refine F.ok sc_Plan_text (fun vs H Q E h => len_Plan_text h) (fun cdv A outer s H vs Q E hr h => ?_)
  obtain ⟨a, ps, lk, kp, rfl, ⟨C, dx, t, l, k, hC, ha, ⟨vs, ht, hp⟩, hl, hk⟩, ⟨h1, h2, h3, h4, h5, h6⟩, q⟩ := h
  cases hC.symm.trans T.n_Plan
  refine ⟨_, (pss_cons (ps_set (i := 1) sc_Plan_text.nd rfl (.inl rfl) (pe_lst (pa_cons (pe_join pe_str (pe_lc (own := [("deed", 4), ("key", 5)]) (g := gTup K 2 (gCons (gName 4) (gCons (gName 5) gNil))) (by rfl) sc_Plan_text.nd (pi_tup (e_f K (v_ 0))) (blkOk_by (N := ["self", "parts", "word", "names", "deed", "key"]) (sc := defScope s_Plan_text) (by decide +kernel)) (fun _ _ _ _ _ => pg_tupK K (by rfl) (pgs_cons (pg_name (i := 4) sc_Plan_text.nd rfl (Or.inl rfl)) (pgs_cons (pg_name (i := 5) sc_Plan_text.nd rfl (Or.inl rfl)) pgs_nil))) (fun _ _ _ _ _ => pts_nil) (fun _ _ _ _ _ => (pe_joined (.cons (pe_fmt (v_ 4)) (.cons pe_str (.cons (pe_fmt (v_ 5)) .nil))))))) pa_nil))) (pss_cons (ps_for PassesOwn.never rfl (pi_tup (pe_tup (pa_cons (pe_tup (pa_cons pe_str (pa_cons (e_f K (v_ 0)) pa_nil))) (pa_cons (pe_tup (pa_cons pe_str (pa_cons (e_f K (v_ 0)) pa_nil))) pa_nil)))) (pg_tup (by rfl) (pgs_cons (pg_name (i := 2) sc_Plan_text.nd rfl (.inl rfl)) (pgs_cons (pg_name (i := 3) sc_Plan_text.nd rfl (.inl rfl)) pgs_nil))) (pss_one (ps_if (pt_c op_gtM (pe_callB (lenK K) (by rfl) T.z_len PySem.boot_len (pa_cons (v_ 3) pa_nil)) pe_int) (pss_one (ps_expr (pe_bm PySem.F.plainAttrs_list PySem.F.slot_list_append PySem.F.type_list_append mt_append (v_ 1) (pa_cons (pe_join pe_str (pe_lst (pa_cons (v_ 2) (StX.pa_star (v_ 3) pa_nil)))) pa_nil)))) pss_nil))) (pss_one (ps_ret (pe_join pe_str (v_ 1)))))), ?_⟩
  have vl := pairs_len hp
  refine ⟨⟨_, rfl⟩, a, a_Plan, dx, _, _, rfl, ha, T.cl_Plan, T.na_Plan_steps, rfl, t, rfl, ⟨_, ht⟩, fun D nD => ?_⟩
  refine lc_it (te := fun σ H Q => tJs [_, _, _] Str.empty σ H fun out H1 => Q (.str out) H1) (walk_tup (xs := vs)) (PvP H D (mapF ps fun p => .str (stx p))) (pvp_start nD rfl) (fun _ _ _ h => SqT.same ht h.1) ?_ ?_
  · rintro i v H1 H2 hi pv ⟨rfl, hv⟩
    have hv : vs[i]? = some v := by
      first | exact hv | exact hv _ (SqT.same ht pv.1)
    obtain ⟨⟨d, z⟩, e, r, rfl, hr⟩ := pairs_at (pairs_same hp pv.1) hv
    obtain ⟨l1, l2⟩ := h4 _ (List.mem_of_getElem? e)
    have l1 : d.length ≤ 4 := l1
    have l2 : z.length ≤ 12 := l2
    have s1 := one_sp
    have z0 : Str.empty.length = 0 := rfl
    refine ⟨r, _, rfl, hr, rfl, _, _, rfl, _, _, rfl, rfl, rfl, ?_⟩
    refine .inl ⟨_, rfl, line_of (by omega), _, rfl, line_of (by rw [len_add]; omega), _, rfl, line_of (by rw [len_add, len_add]; omega), .inl ⟨_, rfl, line_of (by omega), _, rfl, line_of (by rw [len_add, len_add, len_add]; omega), ?_⟩⟩
    refine pvp_put nD pv (Same.refl _) ?_ (Nat.lt_of_le_of_lt mapF_len (by omega))
    rw [mapF_put e, empty_add]
    rfl
  rintro H1 ⟨s1, hD⟩
  rw [mapF_all vl, show (fun p => V.str (stx p)) = V.str ∘ stx from rfl, ← List.map_map] at hD
  refine ⟨_, D, ps.map stx, rfl, rfl, .inl (SqL.of hD), ?_, ?_⟩
  · have hs := sum_le (f := fun z : Str => z.length) (B := 17) (l := ps.map stx) fun z hz => by
      obtain ⟨x, hx, rfl⟩ := List.mem_map.mp hz
      exact stx_len (h4 x hx)
    rw [List.length_map] at hs ⊢
    rw [cm_len]
    have hs : ((ps.map stx).map (·.length)).sum ≤ ps.length * 17 := hs
    omega
  rw [TL.join_eq]
  refine ⟨(by show 1 ≤ sizeLine; decide), fun P nP => ?_⟩
  have sP := same_new (o := .lst [.str (jst ps)]) nP
  have eP : (upd H1 P (.lst [.str (jst ps)])) P = some (.lst ([jst ps].map V.str)) := upd_same
  have s2 := s1.trans sP
  have P0 : H P = none := Same.free s1 nP
  show (fun H2 => _) (upd H1 P (.lst [.str (jst ps)]))
  generalize upd H1 P (.lst [.str (jst ps)]) = H2 at eP s2 ⊢
  clear s1 sP nP hD nD
  refine ⟨a, a_Plan, dx, _, _, rfl, s2 _ _ ha, T.cl_Plan, T.na_Plan_locked, rfl, (by show 2 ≤ sizeLine; decide), fun u1 n1 => ?_⟩
  have q1 := same_new (o := .tup [.str "lock", .ref l]) n1
  refine ⟨a, a_Plan, dx, _, _, rfl, q1 _ _ (s2 _ _ ha), T.cl_Plan, T.na_Plan_kept, rfl, (by show 2 ≤ sizeLine; decide), fun u2 n2 => ?_⟩
  have q2 := same_new (o := .tup [.str "keep", .ref k]) n2
  refine ⟨(by show 2 ≤ sizeLine; decide), fun u n3 => ?_⟩
  have q3 := same_new (o := .tup [.ref u1, .ref u2]) n3
  have q13 := (q1.trans q2).trans q3
  have e1 := q3 _ _ (q2 _ _ (upd_same (H := H2) (a := u1) (o := .tup [.str "lock", .ref l])))
  have e2 := q3 _ _ (upd_same (H := upd H2 u1 (.tup [.str "lock", .ref l])) (a := u2) (o := .tup [.str "keep", .ref k]))
  have e3 : (upd (upd (upd H2 u1 (.tup [.str "lock", .ref l])) u2 (.tup [.str "keep", .ref k])) u (.tup [.ref u1, .ref u2])) u = some (.tup [.ref u1, .ref u2]) := upd_same
  have eP3 := q13 _ _ eP
  have s3 := s2.trans q13
  generalize upd (upd (upd H2 u1 (.tup [.str "lock", .ref l])) u2 (.tup [.str "keep", .ref k])) u (.tup [.ref u1, .ref u2]) = H3 at e1 e2 e3 eP3 s3 ⊢
  clear q1 q2 q3 q13 n1 n2 n3 eP s2
  have hl3 := SqT.same hl s3
  have hk3 := SqT.same hk s3
  refine ⟨u, rfl, ⟨_, SqT.of e3⟩, ?_⟩
  refine for_tup (K := K) (a := u) (xs := [.ref u1, .ref u2]) (fun i σ' H' => (∃ y z, σ' = [some (.ref a), some (.ref P), y, z, none, none]) ∧ Bt P H3 H' ∧ H' P = some (.lst (([jst ps] ++ (if 1 ≤ i then optT "lock" lk else []) ++ (if 2 ≤ i then optT "keep" kp else [])).map V.str))) ⟨⟨_, _, rfl⟩, Bt.refl P H3, eP3⟩ (fun i σ' H' _ h => SqT.bt (SqT.of e3) (NT.lst ⟨_, eP3⟩) h.2.1) ?_ ?_
  · rintro i v σ' H4 hi ⟨⟨y, z, rfl⟩, b4, e4⟩
    have nt := NT.lst (H := H3) (st := P) ⟨_, eP3⟩
    obtain ⟨uu, w, m, zs, rfl, em, hz, lz, lw, sz, ep, en⟩ : ∃ (uu : Addr) (w : Str) (m : Addr) (zs : List Str), v = .ref uu ∧ SqT K H4 uu [.str w, .ref m] ∧ TxT K H4 m zs ∧ zs.length ≤ 100 ∧ w.length ≤ 12 ∧ (∀ z ∈ zs, z.length ≤ 12) ∧ ([jst ps] ++ (if 1 ≤ i + 1 then optT "lock" lk else []) ++ (if 2 ≤ i + 1 then optT "keep" kp else [])) = ([jst ps] ++ (if 1 ≤ i then optT "lock" lk else []) ++ (if 2 ≤ i then optT "keep" kp else [])) ++ optT w zs ∧ ([jst ps] ++ (if 1 ≤ i then optT "lock" lk else []) ++ (if 2 ≤ i then optT "keep" kp else [])).length ≤ 2 := by
      have o1 : ∀ (w : Str) (zs : List Str), (optT w zs).length ≤ 1 := fun w zs => by
        unfold optT
        split
        · exact Nat.zero_le _
        · exact Nat.le_refl _
      match i, hi with
      | 0, hi =>
        cases hi
        exact ⟨u1, "lock", l, lk, rfl, SqT.bt (SqT.of e1) nt b4, SqT.bt hl3 nt b4, h2, two_w.1, h5, by simp, by simp⟩
      | 1, hi =>
        cases hi
        refine ⟨u2, "keep", k, kp, rfl, SqT.bt (SqT.of e2) nt b4, SqT.bt hk3 nt b4, h3, two_w.2, h6, by simp, ?_⟩
        have := o1 "lock" lk
        rw [if_pos (Nat.le_refl 1), if_neg (by decide), List.append_nil, List.length_append, List.length_singleton]
        omega
      | i + 2, hi => cases hi
    rw [ep]
    generalize [jst ps] ++ (if 1 ≤ i then optT "lock" lk else []) ++ (if 2 ≤ i then optT "keep" kp else []) = pt at e4 en ⊢
    refine ⟨uu, _, rfl, em, rfl, _, _, rfl, _, _, rfl, rfl, ?_⟩
    refine .inl ⟨_, .inr hz, ?_⟩
    rw [List.length_map]
    refine ite2 (fun c => ?_) (fun c => ?_)
    · have c : (0 : Int) < zs.length := of_decide_eq_true c
      have eo : optT w zs = [Str.join " " (w :: zs)] := by
        unfold optT
        rw [if_neg (fun h => by rw [h] at c; exact absurd c (by decide))]
      rw [eo]
      refine ⟨.inl ⟨rfl, _, SqL.of e4⟩, ⟨_, rfl⟩, m, _, rfl, .inl hz, line_of (by rw [List.length_cons, List.length_append, List.length_map, List.length_nil]; omega), fun p1 n1 => ?_⟩
      have s5 := same_new (o := .lst (.str w :: (zs.map V.str ++ []))) n1
      have e5 : (upd H4 p1 (.lst (.str w :: (zs.map V.str ++ [])))) p1 = some (.lst ((w :: zs).map V.str)) := by rw [upd_same, List.append_nil]; rfl
      refine ⟨_, p1, w :: zs, rfl, rfl, .inl (SqL.of e5), ?_, ?_⟩
      · have hs := sum_le (f := fun z : Str => z.length) (B := 12) (l := w :: zs) fun x hx => (List.mem_cons.mp hx).elim (fun e => e ▸ lw) (sz x)
        have hs : ((w :: zs).map (·.length)).sum ≤ (w :: zs).length * 12 := hs
        rw [one_sp]
        rw [List.length_cons] at hs ⊢
        omega
      rw [TL.join_eq]
      refine ⟨P, _, _, rfl, rfl, s5 _ _ e4, line_lt (by rw [List.length_map]; omega), ⟨_, _, rfl⟩, fun b o nb hb => ?_, ?_⟩
      · rw [upd_ne nb]
        exact s5 _ _ (b4 b o nb hb)
      · rw [upd_same, List.map_append]
        rfl
    · have c : ¬ (0 : Int) < zs.length := of_decide_eq_false (Bool.eq_false_iff.mpr c)
      have eo : optT w zs = [] := by
        unfold optT
        rw [if_pos (List.eq_nil_of_length_eq_zero (by omega))]
      rw [eo, List.append_nil]
      exact ⟨⟨_, _, rfl⟩, b4, e4⟩
  rintro σ' H4 ⟨⟨y, z, rfl⟩, b4, e4⟩
  have e4 : H4 P = some (.lst (([jst ps] ++ optT "lock" lk ++ optT "keep" kp).map V.str)) := e4
  refine ⟨⟨_, rfl⟩, _, P, _, rfl, rfl, .inl (SqL.of e4), ?_, ?_⟩
  · have b1 := jst_len h4 h1
    have o : ∀ (w : Str) (zs : List Str), w.length ≤ 12 → (∀ z ∈ zs, z.length ≤ 12) → zs.length ≤ 100 → ∀ x ∈ optT w zs, x.length ≤ 1900 := fun w zs hw hz hl x hx => by
      unfold optT at hx
      split at hx
      · cases hx
      · rw [List.mem_singleton.mp hx]
        have := jsp_len (zs := w :: zs) (fun y hy => (List.mem_cons.mp hy).elim (fun e => e ▸ hw) (hz y)) (by rw [List.length_cons]; omega)
        omega
    have o1 : ∀ (w : Str) (zs : List Str), (optT w zs).length ≤ 1 := fun w zs => by
      unfold optT
      split
      · exact Nat.zero_le _
      · exact Nat.le_refl _
    have hs := sum_le (f := fun z : Str => z.length) (B := 1900) (l := [jst ps] ++ optT "lock" lk ++ optT "keep" kp) fun z hz => by
      rcases List.mem_append.mp hz with h | h
      · rcases List.mem_append.mp h with h | h
        · rw [List.mem_singleton.mp h]
          exact b1
        · exact o _ _ two_w.1 h5 h2 z h
      · exact o _ _ two_w.2 h6 h3 z h
    have a1 := o1 "lock" lk
    have a2 := o1 "keep" kp
    have hs : (([jst ps] ++ optT "lock" lk ++ optT "keep" kp).map (·.length)).sum ≤ ([jst ps] ++ optT "lock" lk ++ optT "keep" kp).length * 1900 := hs
    have ln : ([jst ps] ++ optT "lock" lk ++ optT "keep" kp).length ≤ 3 := by
      rw [List.length_append, List.length_append, List.length_singleton]
      omega
    rw [sc_len]
    omega
  rw [TL.join_eq, parts_txt]
  exact q _ fun b o hb => b4 b o (ne_of_none hb P0) (s3 b o hb)
end
section
variable {P : Program} {w : World} {K : PySem.W.Frag} {mg : Str → Option Value} {base : Heap}
variable {t_DIGITS t_LETTERS t_LONGEST_NAME : Tok} {a_DEEDS a_MARKS a_RESERVED a_SIGNS a_BadName a_BadPlan a_BadText a_ElseputError a_Plan a_Reader : Addr}
def sp__law_text (K : PySem.W.Frag) : Sp := fun vs H Q _ => ∃ (R L M : Addr) (ps : List Stp) (lk kp : List Str), vs = [.ref R, .ref L, .ref M] ∧ (∃ us, H R = some (.lst us) ∧ PairsIn K H us ps) ∧ H L = some (.lst (lk.map V.str)) ∧ H M = some (.lst (kp.map V.str)) ∧ Shrt ps (among ps lk) (among ps kp) ∧ (lk ≠ [] → among ps lk ≠ []) ∧ (kp ≠ [] → among ps kp ≠ []) ∧ ∀ H', Same H H' → Q (.str (txt ps (among ps lk) (among ps kp))) H'
theorem len__law_text {vs : List V} {H : Hp} {Q : VK} {E : XK} (h : sp__law_text K vs H Q E) : vs.length = 3 := by
  obtain ⟨_, _, _, _, _, _, rfl, _⟩ := h
  rfl
theorem among_nil {ps : List Stp} : among ps [] = [] := by
  unfold among
  rw [List.filter_eq_nil_iff]
  intro z _ h
  exact nomatch of_decide_eq_true h
theorem wtx_on {w : Str} {zs : List Str} {a : Str} (pre : Str) (h : zs ≠ []) (e : pre = "; " ++ (w ++ " ")) : a ++ pre ++ Str.join " " zs = a ++ wtx w zs := by
  unfold wtx
  rw [if_neg h, e]
  simp only [app_assoc]
theorem pre_lock : ("; lock " : Str) = "; " ++ ("lock" ++ " ") ∧ ("; keep " : Str) = "; " ++ ("keep" ++ " ") := by decide +kernel
theorem pre_len : ("; lock " : Str).length = 7 ∧ ("; keep " : Str).length = 7 := by decide +kernel
theorem ok__law_text {f : Addr} {fd : FuncData} (F : Fun K "_law_text" "_law_text" s__law_text f fd) (T : Gs K mg t_DIGITS t_LETTERS t_LONGEST_NAME a_DEEDS a_MARKS a_RESERVED a_SIGNS a_BadName a_BadPlan a_BadText a_ElseputError a_Plan a_Reader) : FnOk P w K mg base CX0 1 f fd ["_law_steps", "_law_row_keys", "_law_held_keys"] (sp__law_text K) := by
  refine F.ok sc__law_text (fun vs H Q E h => len__law_text h) (fun cdv A outer s H vs Q E hr h => ?_)
  obtain ⟨R, L, M, ps, lk, kp, rfl, ⟨vs, hR, hp⟩, hL, hM, ⟨h1, h2, h3, h4, h5, h6⟩, n1, n2, q⟩ := h
  refine ⟨_, (pss_cons (ps_set (i := 3) sc__law_text.nd rfl (.inl rfl) (pe_join pe_str (pe_lc (own := [("_law_step", 5)]) (g := gName 5) (by rfl) sc__law_text.nd (pi_list (v_ 0)) (blkOk_by (N := ["_law_steps", "_law_row_keys", "_law_held_keys", "_law_line_here", "_law_looked", "_law_step", "_law_key"]) (sc := defScope s__law_text) (by decide +kernel)) (fun _ _ _ _ _ => pg_name (i := 5) sc__law_text.nd rfl (Or.inl rfl)) (fun _ _ _ _ _ => pts_nil) (fun _ _ _ _ _ => (pe_op (addK K) (pe_op (addK K) (e_x K (v_ 5) pe_int) pe_str) (e_x K (v_ 5) pe_int)))))) (pss_cons (ps_setLc (i := 4) (own := [("_law_step", 5)]) (g := gName 5) (by rfl) sc__law_text.nd rfl rfl (sw_true rfl rfl rfl (by decide +kernel)) (pi_list (v_ 0)) (blkOk_by (N := ["_law_steps", "_law_row_keys", "_law_held_keys", "_law_line_here", "_law_looked", "_law_step", "_law_key"]) (sc := defScope s__law_text) (by decide +kernel)) (fun _ _ _ _ _ => pg_name (i := 5) sc__law_text.nd rfl (Or.inl rfl)) (fun _ _ _ _ _ => pts_one (pt_c (eqK K hr.units) (e_x K (v_ 5) pe_int) pe_str)) (fun _ _ _ _ _ => (e_x K (v_ 5) pe_int))) (Evl.pss_cut (ps_if (pt_c op_gtM (pe_callB (lenK K) (by rfl) T.z_len PySem.boot_len (pa_cons (v_ 1) pa_nil)) pe_int) (pss_one (ps_set (i := 3) sc__law_text.nd rfl (.inl rfl) (pe_op (addK K) (pe_op (addK K) (v_ 3) pe_str) (pe_join pe_str (pe_lc (own := [("_law_key", 6)]) (g := gName 6) (by rfl) sc__law_text.nd (pi_list (v_ 4)) (blkOk_by (N := ["_law_steps", "_law_row_keys", "_law_held_keys", "_law_line_here", "_law_looked", "_law_step", "_law_key"]) (sc := defScope s__law_text) (by decide +kernel)) (fun _ _ _ _ _ => pg_name (i := 6) sc__law_text.nd rfl (Or.inl rfl)) (fun _ _ _ _ _ => pts_one (pt_c (inK K) (v_ 6) (v_ 1))) (fun _ _ _ _ _ => (v_ 6))))))) pss_nil) (Evl.pss_cut (ps_if (pt_c op_gtM (pe_callB (lenK K) (by rfl) T.z_len PySem.boot_len (pa_cons (v_ 2) pa_nil)) pe_int) (pss_one (ps_set (i := 3) sc__law_text.nd rfl (.inl rfl) (pe_op (addK K) (pe_op (addK K) (v_ 3) pe_str) (pe_join pe_str (pe_lc (own := [("_law_key", 6)]) (g := gName 6) (by rfl) sc__law_text.nd (pi_list (v_ 4)) (blkOk_by (N := ["_law_steps", "_law_row_keys", "_law_held_keys", "_law_line_here", "_law_looked", "_law_step", "_law_key"]) (sc := defScope s__law_text) (by decide +kernel)) (fun _ _ _ _ _ => pg_name (i := 6) sc__law_text.nd rfl (Or.inl rfl)) (fun _ _ _ _ _ => pts_one (pt_c (inK K) (v_ 6) (v_ 2))) (fun _ _ _ _ _ => (v_ 6))))))) pss_nil) (pss_one (ps_ret (v_ 3))))))), ?_⟩
  have vl := pairs_len hp
  refine ⟨⟨_, rfl⟩, R, rfl, ⟨_, SqL.of hR⟩, fun D nD => ?_⟩
  refine lc_it (walk_list (xs := vs)) (PvP H D (mapF ps fun p => .str (stx p))) (pvp_start nD rfl) (fun _ _ _ h => SqL.of (h.1 _ _ hR)) ?_ ?_
  · rintro i v H1 H2 hi pv ⟨rfl, hv⟩
    have hv : vs[i]? = some v := by
      first | exact hv | exact hv _ (SqL.of (pv.1 _ _ hR))
    obtain ⟨⟨d, z⟩, e, r, rfl, hr⟩ := pairs_at (pairs_same hp pv.1) hv
    obtain ⟨l1, l2⟩ := h4 _ (List.mem_of_getElem? e)
    have l1 : d.length ≤ 4 := l1
    have l2 : z.length ≤ 12 := l2
    have s1 := one_sp
    refine ⟨rfl, ?_⟩
    refine ⟨_, .inr hr, .str d, rfl, line_of (by omega), _, .inr hr, .str z, rfl, line_of (by rw [len_add]; omega), ?_⟩
    exact pvp_put nD pv (Same.refl _) (mapF_put e) (Nat.lt_of_le_of_lt mapF_len (by omega))
  rintro H1 ⟨s1, hD⟩
  rw [mapF_all vl, show (fun p => V.str (stx p)) = V.str ∘ stx from rfl, ← List.map_map] at hD
  refine ⟨_, D, ps.map stx, rfl, rfl, .inl (SqL.of hD), ?_, ?_⟩
  · have hs := sum_le (f := fun z : Str => z.length) (B := 17) (l := ps.map stx) fun z hz => by
      obtain ⟨x, hx, rfl⟩ := List.mem_map.mp hz
      exact stx_len (h4 x hx)
    rw [List.length_map] at hs ⊢
    rw [cm_len]
    have hs : ((ps.map stx).map (·.length)).sum ≤ ps.length * 17 := hs
    omega
  rw [TL.join_eq]
  clear hD nD
  have hR1 := s1 _ _ hR
  have hp1 := pairs_same hp s1
  refine ⟨R, rfl, ⟨_, SqL.of hR1⟩, fun D nD => ?_⟩
  refine lc_it (walk_list (xs := vs)) (PvP H1 D (keepF ps (fun p => decide (p.1 = ("look" : Str))) fun p => .str p.2)) (pvp_start nD rfl) (fun _ _ _ h => SqL.of (h.1 _ _ hR1)) ?_ ?_
  · rintro i v H2 H3 hi pv ⟨rfl, hv⟩
    obtain ⟨⟨d, z⟩, e, r, rfl, hr⟩ := pairs_at (pairs_same hp1 pv.1) hv
    refine ⟨rfl, ?_⟩
    refine ⟨_, .inr hr, .str d, rfl, ?_⟩
    refine ite2 (fun c => ?_) (fun c => ?_)
    · exact ⟨_, .inr hr, .str z, rfl, pvp_put nD pv (Same.refl _) (keepF_put e c) (Nat.lt_of_le_of_lt keepF_len (by omega))⟩
    · exact pvp_skip pv (Same.refl _) (keepF_skip e c)
  rintro H2 ⟨s2, hD⟩
  rw [keepF_all vl] at hD
  have hD : H2 D = some (.lst ((looked ps).map V.str)) := by
    rw [hD]
    unfold looked
    rw [List.map_map]
    rfl
  have s12 := s1.trans s2
  have ll : (looked ps).length ≤ 100 := Nat.le_trans looked_len h1
  have jl := jst_len h4 h1
  have jn : ∀ {zs : List Str}, (∀ z ∈ zs, z.length ≤ 12) → zs.length ≤ 100 → (zs.map (·.length)).sum + zs.length * (" " : Str).length ≤ 16777216 := fun {zs} h l => by
    have hs := sum_le (f := fun z : Str => z.length) (B := 12) h
    have hs : (zs.map (·.length)).sum ≤ zs.length * 12 := hs
    rw [one_sp]
    omega
  refine ⟨fun σ' H' => σ' = [some (.ref R), some (.ref L), some (.ref M), some (.str (jst ps ++ wtx "lock" (among ps lk))), some (.ref D), none, none] ∧ Same H2 H', ?_, ?_⟩
  · refine .inl ⟨_, .inl (SqL.of (s12 _ _ hL)), ?_⟩
    rw [List.length_map]
    refine ite2 (fun c => ?_) (fun c => ?_)
    · have c : (0 : Int) < lk.length := of_decide_eq_true c
      have ne := n1 fun h => by rw [h] at c; exact absurd c (by decide)
      have b1 : (jst ps).length + ("; lock " : Str).length ≤ 100000 := by rw [pre_len.1]; omega
      refine ⟨line_of b1, ⟨_, rfl⟩, D, rfl, ⟨_, SqL.of hD⟩, fun D2 nD2 => ?_⟩
      refine lc_it (walk_list (xs := (looked ps).map V.str)) (PvP H2 D2 (keepF (looked ps) (fun z => decide (z ∈ lk)) V.str)) (pvp_start nD2 rfl) (fun _ _ _ h => SqL.of (h.1 _ _ hD)) ?_ ?_
      · rintro i v H3 H4 hi pv ⟨rfl, hv⟩
        have hv : ((looked ps).map V.str)[i]? = some v := by
          first | exact hv | exact hv _ (SqL.of (pv.1 _ _ hD))
        rw [List.getElem?_map] at hv
        obtain ⟨z, e, rfl⟩ := Option.map_eq_some_iff.mp hv
        refine ⟨rfl, ?_⟩
        refine ⟨_, .inl (SqL.of (pv.1 _ _ (s12 _ _ hL))), rfl, flat_strs, ?_⟩
        refine ite2 (fun c => ?_) (fun c => ?_)
        · exact pvp_put nD2 pv (Same.refl _) (keepF_put e (inV_str.symm.trans c)) (Nat.lt_of_le_of_lt keepF_len (by omega))
        · exact pvp_skip pv (Same.refl _) (keepF_skip e fun h => c (inV_str.trans h))
      rintro H3 ⟨s3, hD2⟩
      rw [keepF_all (by rw [List.length_map])] at hD2
      refine ⟨_, D2, among ps lk, rfl, rfl, .inl (SqL.of hD2), jn h5 h2, ?_⟩
      rw [TL.join_eq]
      have jl2 := jsp_len h5 (by omega)
      have b2 : (jst ps ++ "; lock ").length + (Str.join " " (among ps lk)).length ≤ 100000 := by rw [len_add, pre_len.1]; omega
      refine ⟨line_of b2, ?_⟩
      have e : jst ps ++ "; lock " ++ Str.join " " (among ps lk) = jst ps ++ wtx "lock" (among ps lk) := wtx_on _ ne pre_lock.1
      refine ⟨?_, s3⟩
      rw [← e]
      rfl
    · have c : ¬ (0 : Int) < lk.length := of_decide_eq_false (Bool.eq_false_iff.mpr c)
      have e : lk = [] := List.eq_nil_of_length_eq_zero (by omega)
      refine ⟨?_, Same.refl _⟩
      rw [e, among_nil]
      show _ = [some (V.ref R), some (.ref L), some (.ref M), some (.str (jst ps ++ Str.empty)), some (.ref D), none, none]
      rw [app_empty]
      rfl
  rintro σ' H3 ⟨rfl, s3⟩
  have wl : (wtx "lock" (among ps lk)).length ≤ 1330 := by
    unfold wtx
    split
    · decide
    · have := jsp_len h5 (by omega)
      rw [len_add, len_add, len_add, one_sp, sc_len, show ("lock" : Str).length = 4 from rfl]
      omega
  have s13 := s12.trans s3
  have hD3 := s3 _ _ hD
  refine ⟨fun σ' H' => σ' = [some (.ref R), some (.ref L), some (.ref M), some (.str (txt ps (among ps lk) (among ps kp))), some (.ref D), none, none] ∧ Same H3 H', ?_, ?_⟩
  · refine .inl ⟨_, .inl (SqL.of (s13 _ _ hM)), ?_⟩
    rw [List.length_map]
    refine ite2 (fun c => ?_) (fun c => ?_)
    · have c : (0 : Int) < kp.length := of_decide_eq_true c
      have ne := n2 fun h => by rw [h] at c; exact absurd c (by decide)
      have b1 : (jst ps ++ wtx "lock" (among ps lk)).length + ("; keep " : Str).length ≤ 100000 := by rw [pre_len.2, len_add]; omega
      refine ⟨line_of b1, ⟨_, rfl⟩, D, rfl, ⟨_, SqL.of hD3⟩, fun D2 nD2 => ?_⟩
      refine lc_it (walk_list (xs := (looked ps).map V.str)) (PvP H3 D2 (keepF (looked ps) (fun z => decide (z ∈ kp)) V.str)) (pvp_start nD2 rfl) (fun _ _ _ h => SqL.of (h.1 _ _ hD3)) ?_ ?_
      · rintro i v H4 H5 hi pv ⟨rfl, hv⟩
        have hv : ((looked ps).map V.str)[i]? = some v := by
          first | exact hv | exact hv _ (SqL.of (pv.1 _ _ hD3))
        rw [List.getElem?_map] at hv
        obtain ⟨z, e, rfl⟩ := Option.map_eq_some_iff.mp hv
        refine ⟨rfl, ?_⟩
        refine ⟨_, .inl (SqL.of (pv.1 _ _ (s13 _ _ hM))), rfl, flat_strs, ?_⟩
        refine ite2 (fun c => ?_) (fun c => ?_)
        · exact pvp_put nD2 pv (Same.refl _) (keepF_put e (inV_str.symm.trans c)) (Nat.lt_of_le_of_lt keepF_len (by omega))
        · exact pvp_skip pv (Same.refl _) (keepF_skip e fun h => c (inV_str.trans h))
      rintro H4 ⟨s4, hD2⟩
      rw [keepF_all (by rw [List.length_map])] at hD2
      refine ⟨_, D2, among ps kp, rfl, rfl, .inl (SqL.of hD2), jn h6 h3, ?_⟩
      rw [TL.join_eq]
      have jl2 := jsp_len h6 (by omega)
      have b2 : (jst ps ++ wtx "lock" (among ps lk) ++ "; keep ").length + (Str.join " " (among ps kp)).length ≤ 100000 := by rw [len_add, len_add, pre_len.2]; omega
      refine ⟨line_of b2, ?_⟩
      have e : jst ps ++ wtx "lock" (among ps lk) ++ "; keep " ++ Str.join " " (among ps kp) = txt ps (among ps lk) (among ps kp) := wtx_on _ ne pre_lock.2
      refine ⟨?_, s4⟩
      rw [← e]
      rfl
    · have c : ¬ (0 : Int) < kp.length := of_decide_eq_false (Bool.eq_false_iff.mpr c)
      have e : kp = [] := List.eq_nil_of_length_eq_zero (by omega)
      refine ⟨?_, Same.refl _⟩
      rw [e, among_nil]
      show _ = [some (V.ref R), some (.ref L), some (.ref M), some (.str (jst ps ++ wtx "lock" (among ps lk) ++ Str.empty)), some (.ref D), none, none]
      rw [app_empty]
  rintro σ' H4 ⟨rfl, s4⟩
  exact q _ (s13.trans s4)
end
section
variable {P : Program} {w : World} {K : PySem.W.Frag} {mg : Str → Option Value} {base : Heap}
variable {t_DIGITS t_LETTERS t_LONGEST_NAME : Tok} {a_DEEDS a_MARKS a_RESERVED a_SIGNS a_BadName a_BadPlan a_BadText a_ElseputError a_Plan a_Reader : Addr}
/-! ### reading a plan -/
theorem go_back {ok : Str → Bool} {ws : List Str} : ∀ {j : Nat} {a : Acc}, goT ok ws j = some a → ∀ {i : Nat}, i ≤ j → ∃ b, goT ok ws i = some b
  | 0, a, h, i, hi => by
    have : i = 0 := by omega
    subst this
    exact ⟨a, h⟩
  | j + 1, a, h, i, hi => by
    by_cases c : i = j + 1
    · subst c
      exact ⟨a, h⟩
    · cases e : goT ok ws j with
      | some b => exact go_back e (by omega)
      | none =>
        have h : (match goT ok ws j, ws[j]? with
          | some a, some z => nextT ok a z
          | _, _ => none) = some a := h
        rw [e] at h
        cases h
theorem stuck_none {ok : Str → Bool} {ws : List Str} {i : Nat} (h : Stuck ok ws i) : goT ok ws (i + 1) = none := by
  obtain ⟨a, h1, h2⟩ := h
  show (match goT ok ws i, ws[i]? with
    | some a, some z => nextT ok a z
    | _, _ => none) = none
  rw [h1]
  rcases h2 with ⟨h2, _⟩ | ⟨z, h2, h3⟩
  · rw [List.getElem?_eq_none (by omega)]
  · rw [h2]
    exact h3
theorem stuck_lt {ok : Str → Bool} {ws : List Str} {i j : Nat} {a : Acc} (h : Stuck ok ws i) (g : goT ok ws j = some a) : ¬ i < j := fun l => by
  obtain ⟨b, hb⟩ := go_back g (i := i + 1) (by omega)
  rw [stuck_none h] at hb
  cases hb
theorem stuck_one {ok : Str → Bool} {ws : List Str} {i j : Nat} (h : Stuck ok ws i) (g : Stuck ok ws j) : i = j := by
  obtain ⟨a, h1, _⟩ := id h
  obtain ⟨b, g1, _⟩ := id g
  have := stuck_lt h g1
  have := stuck_lt g h1
  omega
theorem stuck_ok {ok : Str → Bool} {ws : List Str} {i : Nat} {c : Acc} (h : Stuck ok ws i) (g : goT ok ws ws.length = some c) : okEnd c.g = false := by
  have n := stuck_lt h g
  obtain ⟨a, h1, h2⟩ := h
  rcases h2 with ⟨h2, h3⟩ | ⟨z, h2, h3⟩
  · subst h2
    rw [g] at h1
    cases h1
    exact h3
  · exact absurd (List.getElem?_eq_some_iff.mp h2).1 n
theorem stuck_or {ok : Str → Bool} {ws : List Str} : ∀ n, n ≤ ws.length → (∃ i, Stuck ok ws i) ∨ ∃ a, goT ok ws n = some a
  | 0, _ => .inr ⟨_, rfl⟩
  | n + 1, hn => by
    rcases stuck_or (ok := ok) (ws := ws) n (by omega) with h | ⟨a, h⟩
    · exact .inl h
    · have e : ws[n]? = some ws[n] := List.getElem?_eq_getElem (by omega)
      cases g : nextT ok a ws[n] with
      | none => exact .inl ⟨n, a, h, .inr ⟨_, e, g⟩⟩
      | some b => exact .inr ⟨b, by rw [go_next h e]; exact g⟩
/-- what is told of each row that was read so far -/
def AccOk (ok : Str → Bool) (i : Nat) (a : Acc) : Prop := (a.g = .key → a.d ∈ deeds) ∧ (∀ s ∈ a.ps, s.1 ∈ deeds ∧ ok s.2 = true) ∧ (∀ z ∈ a.l, ok z = true) ∧ (∀ z ∈ a.k, ok z = true) ∧ a.ps.length + a.l.length + a.k.length ≤ i
theorem go_ok {ok : Str → Bool} {ws : List Str} : ∀ {i : Nat} {a : Acc}, goT ok ws i = some a → AccOk ok i a
  | 0, a, h => by
    cases h
    exact ⟨(fun h => by cases h), (fun _ h => nomatch h), (fun _ h => nomatch h), (fun _ h => nomatch h), Nat.le_refl _⟩
  | i + 1, a, h => by
    have h : (match goT ok ws i, ws[i]? with
      | some a, some z => nextT ok a z
      | _, _ => none) = some a := h
    cases e : goT ok ws i with
    | none => rw [e] at h; cases h
    | some b =>
      cases e2 : ws[i]? with
      | none => rw [e, e2] at h; cases h
      | some z =>
        rw [e, e2] at h
        have h : nextT ok b z = some a := h
        obtain ⟨b1, b2, b3, b4, b5⟩ := go_ok e
        have sn : ∀ {α : Type} {p : α → Prop} {xs : List α} {x : α}, (∀ y ∈ xs, p y) → p x → ∀ y ∈ xs ++ [x], p y := fun h1 h2 y hy => (mem_snoc.mp hy).elim (h1 y) (fun e => e ▸ h2)
        unfold nextT at h
        split at h <;> (repeat' split at h) <;> first
          | (cases h; done)
          | skip
        all_goals (cases h; refine ⟨?_, ?_, ?_, ?_, ?_⟩)
        all_goals first
          | (intro h; cases h; done)
          | (intro _; assumption)
          | assumption
          | (show _ ≤ _; omega)
          | (show _ ≤ _; simp only [List.length_append, List.length_singleton]; omega)
          | exact sn b3 (by assumption)
          | exact sn b4 (by assumption)
          | exact sn b2 ⟨b1 (by assumption), by assumption⟩
end
section
variable {P : Program} {w : World} {K : PySem.W.Frag} {mg : Str → Option Value} {base : Heap}
variable {t_DIGITS t_LETTERS t_LONGEST_NAME : Tok} {a_DEEDS a_MARKS a_RESERVED a_SIGNS a_BadName a_BadPlan a_BadText a_ElseputError a_Plan a_Reader : Addr}
inductive Out where
  | bad (c : Int)
  | nofit
  | made (ps : List Stp) (l k : List Str)
def ofAcc (c : Acc) : Out := if planFits c.ps c.l c.k = true then .made c.ps (among c.ps c.l) (among c.ps c.k) else .nofit
/-- what reading the line comes to -/
def OutIs (z : Str) (o : Out) : Prop := match splitL z.cps.toList 1 with
  | .error c => o = .bad (c : Int)
  | .ok toks => (∃ i, Stuck isName (wsOf toks) i ∧ o = .bad (colAt toks ((z.length : Int) + 1) i)) ∨ ∃ c, goT isName (wsOf toks) toks.length = some c ∧ okEnd c.g = true ∧ o = ofAcc c
def Reads (K : PySem.W.Frag) (H : Hp) (o : Out) (Q : VK) (E : XK) : Prop := match o with
  | .bad c => BadAt K H 1 c E
  | .nofit => BadP K H E
  | .made ps l k => ∀ (H' : Hp) (x : Addr), Same H H' → PlAt K H' x ps l k → Q (.ref x) H'
def LinePre (z : Str) : Prop := z.length ≤ 10000 ∧ ∀ toks, splitL z.cps.toList 1 = .ok toks → TkOk toks ∧ toks.length < 64
def sp_Plan_read (K : PySem.W.Frag) : Sp := fun vs H Q E => ∃ (z : Str) (o : Out), vs = [.str z] ∧ LinePre z ∧ OutIs z o ∧ Reads K H o Q E
theorem len_Plan_read {vs : List V} {H : Hp} {Q : VK} {E : XK} (h : sp_Plan_read K vs H Q E) : vs.length = 1 := by
  obtain ⟨_, _, rfl, _⟩ := h
  rfl
theorem ok_Plan_read {f : Addr} {fd : FuncData} {f_parse_plan : Addr} {fd_parse_plan : FuncData} {f_Plan___init__ : Addr} {fd_Plan___init__ : FuncData} {e1_Plan___init__ e2_Plan___init__ : Addr} {f_Reader___init__ : Addr} {fd_Reader___init__ : FuncData} (F : Fun K "read" "Plan.read" s_Plan_read f fd) (T : Gs K mg t_DIGITS t_LETTERS t_LONGEST_NAME a_DEEDS a_MARKS a_RESERVED a_SIGNS a_BadName a_BadPlan a_BadText a_ElseputError a_Plan a_Reader) (c_parse_plan : Cal P w K mg base (L2.CX P w) 7 "parse_plan" f_parse_plan fd_parse_plan ["reader"] (sp_parse_plan K)) (c_Plan___init__ : CalK P w K mg base (L2.CX P w) 4 "Plan" a_Plan f_Plan___init__ fd_Plan___init__ ["self", "steps", "locked", "kept"] 2 "locked" "kept" e1_Plan___init__ e2_Plan___init__ (sp_Plan___init__ K)) (c_Reader___init__ : CalID P w K mg base (L2.CX P w) 4 "Reader" a_Reader f_Reader___init__ fd_Reader___init__ ["self", "line", "number"] [(.int 1)] (sp_Reader___init__ K)) : FnOk P w K mg base (L2.CX P w) 8 f fd ["line"] (sp_Plan_read K) := by
  refine F.okX sc_Plan_read (fun vs H Q E h => len_Plan_read h) (fun cdv A outer s H vs Q E hr h => ?_)
  obtain ⟨z, o, rfl, ⟨hz, hk⟩, ho, q⟩ := h
  refine ⟨_, (pss_cons (ps_asg (pe_call c_parse_plan.G (hr.mono (by first | decide | omega)) rfl c_parse_plan.m c_parse_plan.kp c_parse_plan.b .nil (passes_call (takes_of rfl rfl rfl rfl) (fun _ _ _ _ h => h)) (pa_cons (pe_makeD c_Reader___init__ (hr.mono (by first | decide | omega)) rfl (passes_call (takes_of rfl rfl rfl rfl) (fun _ _ _ _ h => h)) (pa_cons (v_ 0) pa_nil)) pa_nil)) (pg_tup (by rfl) (pgs_cons (pg_name (i := 1) sc_Plan_read.nd rfl (.inl rfl)) (pgs_cons (pg_name (i := 2) sc_Plan_read.nd rfl (.inl rfl)) (pgs_cons (pg_name (i := 3) sc_Plan_read.nd rfl (.inl rfl)) pgs_nil))))) (pss_one (ps_ret (pe_mkAll c_Plan___init__ (hr.mono (by first | decide | omega)) rfl (passes_call (takes_of rfl rfl rfl rfl) (fun _ _ _ _ h => h)) (pa_cons (v_ 1) pa_nil) (pk_cons (v_ 2) (pk_cons (v_ 3) pk_nil)))))), ?_⟩
  refine fun x dx nx nd ne => ?_
  have sm : Same H (upd (upd H dx (.own x)) x (.ins a_Reader dx [])) := fun b o hb => by
    rw [upd_ne (ne_of_none hb nx), upd_ne (ne_of_none hb nd)]
    exact hb
  refine ⟨x, a_Reader, dx, z, 1, rfl, T.n_Reader, upd_same, by omega, by decide, by decide, ?_⟩
  unfold OutIs at ho
  unfold Inits
  cases hs : splitL z.cps.toList 1 with
  | error c =>
    rw [hs] at ho
    have ho : o = .bad (c : Int) := ho
    subst ho
    exact BadAt.same (show BadAt K H 1 (c : Int) E from q) sm
  | ok toks =>
    rw [hs] at ho
    have ho : (∃ i, Stuck isName (wsOf toks) i ∧ o = .bad (colAt toks ((z.length : Int) + 1) i)) ∨ ∃ c, goT isName (wsOf toks) toks.length = some c ∧ okEnd c.g = true ∧ o = ofAcc c := ho
    intro H1 p b1 r1
    refine ⟨rfl, ?_⟩
    obtain ⟨hT, hlen⟩ := hk toks hs
    have s1 : Same H H1 := fun b o hb => b1 b o (ne_of_none hb nx) (sm _ _ hb)
    have R0 : Rd0 K H1 x p 1 ((z.length : Int) + 1) toks 0 := ⟨r1, hT, by decide, by decide, by omega, by omega⟩
    have toSame : ∀ {H' : Hp}, Bt x H1 H' → Same H H' := fun b c o hc => b c o (ne_of_none hc nx) (s1 _ _ hc)
    refine ⟨x, p, 1, _, toks, rfl, R0, by omega, fun i st => ?_, fun c g ok H2 t R L M b2 ht hR hL hM => ?_⟩
    · rcases ho with ⟨j, st2, rfl⟩ | ⟨c, g, ok, rfl⟩
      · rw [stuck_one st st2]
        exact fun C d H' hC b nd hd => (show BadAt K H 1 _ E from q) C d H' hC (toSame b) (Same.free s1 nd) hd
      · have := stuck_ok st (by rw [ws_len]; exact g)
        rw [ok] at this
        cases this
    · rcases ho with ⟨j, st2, rfl⟩ | ⟨c2, g2, ok2, rfl⟩
      · have := stuck_ok st2 (by rw [ws_len]; exact g)
        rw [ok] at this
        cases this
      rw [g] at g2
      cases g2
      obtain ⟨_, a2, a3, a4, a5⟩ := go_ok g
      have s2 := toSame b2
      have nm : ∀ z ∈ planNames c.ps c.l c.k, isName z = true := fun z hz => by
        unfold planNames at hz
        rcases List.mem_append.mp hz with h | h
        · rcases List.mem_append.mp h with h | h
          · obtain ⟨s, hs, rfl⟩ := List.mem_map.mp h
            exact (a2 s hs).2
          · exact a3 z h
        · exact a4 z h
      refine ⟨t, _, rfl, SqT.of ht, rfl, _, _, rfl, _, _, rfl, _, _, rfl, rfl, ?_⟩
      refine ⟨rfl, rfl, ?_⟩
      obtain ⟨us, hR, hus⟩ := hR
      refine fun y dy ny nd ne => made_plan ny nd ne T.n_Plan ⟨us, SqL.of hR, hus⟩ (.inr (SqL.of hL)) (.inr (SqL.of hM)) (by omega) (by omega) (by omega) (fun z hz => ⟨by have := (isName_mem (nm z hz)).2.2.1; omega, isName_asc (nm z hz)⟩) ?_
      unfold PlOut
      rw [bad_none nm]
      unfold ofAcc at q
      by_cases f : planFits c.ps c.l c.k = true
      · rw [if_pos f] at q
        show if planFits c.ps c.l c.k = true then _ else _
        rw [if_pos f]
        exact fun H3 s3 hx => ⟨rfl, (show ∀ (H' : Hp) (x : Addr), Same H H' → PlAt K H' x c.ps (among c.ps c.l) (among c.ps c.k) → Q (.ref x) H' from q) H3 y (s2.trans s3) hx⟩
      · rw [if_neg f] at q
        show if planFits c.ps c.l c.k = true then _ else _
        rw [if_neg f]
        exact fun B H3 hB s3 => (show BadP K H E from q) B H3 hB (s2.trans s3)
/-! ### what reading tells -/
def OutV (K : PySem.W.Frag) (H : Hp) (o : Out) (t : Addr) : Prop := match o with
  | .bad c => ∃ u v : Addr, H t = some (.tup [.str "refused", .ref u, .ref v]) ∧ H u = some (.tup [.bl true, .bl false, .bl true]) ∧ H v = some (.tup [.int 1, .int c])
  | .nofit => ∃ u : Addr, H t = some (.tup [.str "refused", .ref u, .non]) ∧ H u = some (.tup [.bl false, .bl true, .bl true])
  | .made ps l k => ∃ u v w : Addr, H t = some (.tup [.str "made", .ref u, .ref v, .ref w, .str (txt ps l k)]) ∧ StT K H u ps ∧ TxT K H v l ∧ TxT K H w k
theorem OutV.same {K : PySem.W.Frag} {H H' : Hp} {o : Out} {t : Addr} (h : OutV K H o t) (s : Same H H') : OutV K H' o t := by
  cases o with
  | bad c =>
    obtain ⟨u, v, h1, h2, h3⟩ := h
    exact ⟨u, v, s _ _ h1, s _ _ h2, s _ _ h3⟩
  | nofit =>
    obtain ⟨u, h1, h2⟩ := h
    exact ⟨u, s _ _ h1, s _ _ h2⟩
  | made ps l k =>
    obtain ⟨u, v, w, h1, h2, h3, h4⟩ := h
    exact ⟨u, v, w, s _ _ h1, h2.same s, SqT.same h3 s, SqT.same h4 s⟩
def OutShrt : Out → Prop
  | .made ps l k => Shrt ps l k
  | _ => True
def sp__law_read (K : PySem.W.Frag) : Sp := fun vs H Q _ => ∃ (z : Str) (o : Out), vs = [.str z] ∧ LinePre z ∧ OutIs z o ∧ OutShrt o ∧ ∀ (H' : Hp) (t : Addr), Same H H' → OutV K H' o t → Q (.ref t) H'
theorem len__law_read {vs : List V} {H : Hp} {Q : VK} {E : XK} (h : sp__law_read K vs H Q E) : vs.length = 1 := by
  obtain ⟨_, _, rfl, _⟩ := h
  rfl
theorem ok__law_read {f : Addr} {fd : FuncData} {f_Plan_text : Addr} {fd_Plan_text : FuncData} {f_Plan_read : Addr} {fd_Plan_read : FuncData} {p_Plan_read : Addr} (F : Fun K "_law_read" "_law_read" s__law_read f fd) (T : Gs K mg t_DIGITS t_LETTERS t_LONGEST_NAME a_DEEDS a_MARKS a_RESERVED a_SIGNS a_BadName a_BadPlan a_BadText a_ElseputError a_Plan a_Reader) (c_Plan_text : CalM P w K mg base CX0 1 a_Plan "text" f_Plan_text fd_Plan_text ["self"] (sp_Plan_text K)) (c_Plan_read : CalS P w K mg base (L2.CX P w) 8 a_Plan p_Plan_read "read" f_Plan_read fd_Plan_read ["line"] (sp_Plan_read K)) : FnOk P w K mg base CX0 9 f fd ["_law_line_here"] (sp__law_read K) := by
  refine F.ok sc__law_read (fun vs H Q E h => len__law_read h) (fun cdv A outer s H vs Q E hr h => ?_)
  obtain ⟨z, o, rfl, hz, ho, hs, q⟩ := h
  refine ⟨_, (pss_cons (ps_try_as (i := 1) rfl rfl sc__law_read.nd rfl rfl ⟨rfl, by decide +kernel, .inl T.g_ElseputError⟩ takes0 (fun W pn xe tk po => (pss_one (ps_set (i := 2) sc__law_read.nd rfl (.inl rfl) (pe_smethS (pe_glob (v := .ref a_Plan) rfl T.g_Plan rfl) c_Plan_read.rd c_Plan_read.sm c_Plan_read.G (hr.mono (by first | decide | omega)) c_Plan_read.b (fun σ => passAt tk σ) (pa_cons (v_ 0) pa_nil))))) (fun ea oe ecls ed epn hz hf => (pss_cons (ps_set (i := 3) sc__law_read.nd rfl (.inl rfl) pe_non) (Evl.pss_cut (ps_if (pt_t K (pe_callB (call_isN hz hf) (by rfl) T.z_isinstance (by decide +kernel) (pa_cons (v_ 1) (pa_cons (pe_glob (v := .ref a_BadText) rfl T.g_BadText rfl) pa_nil)))) (pss_one (ps_set (i := 3) sc__law_read.nd rfl (.inl rfl) (pe_tup (pa_cons (pe_xf T.x_BadText.xf (T.x_BadText.no _ (by decide)) hz hf (v_ 1)) (pa_cons (pe_xf T.x_BadText.xf (T.x_BadText.no _ (by decide)) hz hf (v_ 1)) pa_nil))))) pss_nil) (pss_one (ps_ret (pe_tup (pa_cons pe_str (pa_cons (pe_tup (pa_cons (pe_callB (call_isN hz hf) (by rfl) T.z_isinstance (by decide +kernel) (pa_cons (v_ 1) (pa_cons (pe_glob (v := .ref a_BadText) rfl T.g_BadText rfl) pa_nil))) (pa_cons (pe_callB (call_isN hz hf) (by rfl) T.z_isinstance (by decide +kernel) (pa_cons (v_ 1) (pa_cons (pe_glob (v := .ref a_BadPlan) rfl T.g_BadPlan rfl) pa_nil))) (pa_cons (pe_callB (call_isN hz hf) (by rfl) T.z_isinstance (by decide +kernel) (pa_cons (v_ 1) (pa_cons (pe_bltn (v := .ty "ValueError") (u := .type "ValueError") (by rfl) T.z_ValueError (by decide +kernel) rfl) pa_nil))) pa_nil)))) (pa_cons (v_ 3) pa_nil)))))))))) (pss_one (ps_ret (pe_tup (pa_cons pe_str (pa_cons (e_f K (v_ 2)) (pa_cons (e_f K (v_ 2)) (pa_cons (e_f K (v_ 2)) (pa_cons (pe_meth0 (v_ 2) c_Plan_text.cl c_Plan_text.me c_Plan_text.G (hr.mono (by first | decide | omega)) c_Plan_text.b .nil pass0) pa_nil))))))))), ?_⟩
  refine ⟨rfl, z, o, rfl, hz, ho, ?_⟩
  cases o with
  | bad c =>
    intro C3 d H' hC3 sm nd hd
    cases hC3.symm.trans T.n_BadText
    refine ⟨true, T.m_BadText_ElseputError, fun _ e ne => ?_, fun h => nomatch h⟩
    refine ⟨fun σ' H2 => ∃ v, H2 v = some (.tup [.int 1, .int c]) ∧ Same H' H2 ∧ σ' = [some (.str z), some (.ref e), none, some (.ref v)], ?_, ?_⟩
    · refine .inl ⟨_, d, _, _, _, true, rfl, rfl, rfl, hd, T.x_BadText.is, fun u h => h, T.k_BadText_BadText, ?_⟩
      refine ⟨rfl, rfl, d, _, _, rfl, hd, rfl, rfl, rfl, d, _, _, rfl, hd, rfl, (by show 2 ≤ sizeLine; decide), fun v nv => ?_⟩
      exact ⟨v, upd_same, same_new nv, rfl⟩
    rintro σ' H2 ⟨v, hv, s2, rfl⟩
    have hd2 := s2 _ _ hd
    refine .inl ⟨_, d, _, _, _, true, rfl, rfl, rfl, hd2, T.x_BadText.is, fun u h => h, T.k_BadText_BadText, ?_⟩
    refine .inl ⟨_, d, _, _, _, false, rfl, rfl, rfl, hd2, T.x_BadText.is, fun u h => h, T.k_BadText_BadPlan, ?_⟩
    refine .inl ⟨_, d, _, _, _, true, rfl, rfl, rfl, hd2, T.x_BadText.is, fun u h => h, T.k_BadText_ValueError, ?_⟩
    refine ⟨(by show 3 ≤ sizeLine; decide), fun u nu => ⟨(by show 3 ≤ sizeLine; decide), fun t nt => ?_⟩⟩
    have s3 := same_new (o := .tup [.bl true, .bl false, .bl true]) nu
    have s4 := same_new (o := .tup [.str "refused", .ref u, .ref v]) nt
    exact q _ t (((sm.trans s2).trans s3).trans s4) ⟨u, v, upd_same, s4 _ _ upd_same, s4 _ _ (s3 _ _ hv)⟩
  | nofit =>
    intro C H1 hC s1
    cases hC.symm.trans T.n_BadPlan
    refine ⟨true, T.m_BadPlan_ElseputError, fun _ e ne => ?_, fun h => nomatch h⟩
    refine ⟨fun σ' H' => H' = H1 ∧ σ' = [some (.str z), some (.ref e), none, some .non], ?_, ?_⟩
    · refine .inr ⟨_, _, _, false, rfl, rfl, rfl, T.x_BadPlan.is, fun u h => h, T.k_BadPlan_BadText, ?_⟩
      exact ⟨rfl, rfl⟩
    rintro σ' H' ⟨rfl, rfl⟩
    refine .inr ⟨_, _, _, false, rfl, rfl, rfl, T.x_BadPlan.is, fun u h => h, T.k_BadPlan_BadText, ?_⟩
    refine .inr ⟨_, _, _, true, rfl, rfl, rfl, T.x_BadPlan.is, fun u h => h, T.k_BadPlan_BadPlan, ?_⟩
    refine .inr ⟨_, _, _, true, rfl, rfl, rfl, T.x_BadPlan.is, fun u h => h, T.k_BadPlan_ValueError, ?_⟩
    refine ⟨(by show 3 ≤ sizeLine; decide), fun u nu => ⟨(by show 3 ≤ sizeLine; decide), fun t nt => ?_⟩⟩
    have s3 := same_new (o := .tup [.bl false, .bl true, .bl true]) nu
    have s4 := same_new (o := .tup [.str "refused", .ref u, .non]) nt
    exact q _ t ((s1.trans s3).trans s4) ⟨u, upd_same, s4 _ _ upd_same⟩
  | made ps l k =>
    intro H1 x s1 hx
    obtain ⟨C, dx2, t1, l1, k1, hC, ha, h1, h2, h3⟩ := id hx
    cases hC.symm.trans T.n_Plan
    refine ⟨x, a_Plan, dx2, _, _, rfl, ha, T.cl_Plan, T.na_Plan_steps, rfl, ?_⟩
    refine ⟨x, a_Plan, dx2, _, _, rfl, ha, T.cl_Plan, T.na_Plan_locked, rfl, ?_⟩
    refine ⟨x, a_Plan, dx2, _, _, rfl, ha, T.cl_Plan, T.na_Plan_kept, rfl, ?_⟩
    refine ⟨x, dx2, _, rfl, ha, rfl, x, ps, l, k, rfl, hx, hs, fun H2 s2 => ?_⟩
    refine ⟨(by show 5 ≤ sizeLine; decide), fun t nt => ?_⟩
    have s3 := same_new (o := .tup [.str "made", .ref t1, .ref l1, .ref k1, .str (txt ps l k)]) nt
    have s23 := s2.trans s3
    exact q _ t (s1.trans s23) ⟨t1, l1, k1, upd_same, h1.same s23, SqT.same h2 s23, SqT.same h3 s23⟩
end
section
variable {P : Program} {w : World} {K : PySem.W.Frag} {mg : Str → Option Value} {base : Heap}
variable {t_DIGITS t_LETTERS t_LONGEST_NAME : Tok} {a_DEEDS a_MARKS a_RESERVED a_SIGNS a_BadName a_BadPlan a_BadText a_ElseputError a_Plan a_Reader : Addr}
/-! ### a laid line is split into its pieces -/
def Laid (zs : List Str) (cs : List Nat) (z : Str) : Prop := ∃ (lead tail : Nat) (gs : List (Nat × List Nat)), cs = cols (1 + lead) gs ∧ gs.map (·.2) = zs.map (·.cps.toList) ∧ Apart gs ∧ z.cps.toList = List.replicate lead 32 ++ lay gs (List.replicate tail 32) ∧ z.length ≤ 10000
theorem Laid.len {zs : List Str} {cs : List Nat} {z : Str} (h : Laid zs cs z) : cs.length = zs.length := by
  obtain ⟨l, t, gs, rfl, h1, _⟩ := h
  have := congrArg List.length h1
  rw [List.length_map, List.length_map] at this
  rw [cols_len, this]
theorem cols_le : ∀ {gs : List (Nat × List Nat)} {c x : Nat}, x ∈ cols c gs → x ≤ c + (lay gs []).length
  | [], _, _, h => nomatch h
  | (g, p) :: r, c, x, h => by
    rw [lay, List.length_append, List.length_append, List.length_replicate]
    rcases List.mem_cons.mp h with e | h
    · omega
    · have := cols_le h
      omega
theorem Laid.le {zs : List Str} {cs : List Nat} {z : Str} (h : Laid zs cs z) : ∀ c ∈ cs, c ≤ 10001 := by
  obtain ⟨l, t, gs, rfl, _, _, h4, h5⟩ := h
  intro c hc
  have := cols_le hc
  have hl := congrArg List.length h4
  rw [lay_tail, List.length_append, List.length_append, List.length_replicate, List.length_replicate, len_cps] at hl
  omega
theorem Laid.split {zs : List Str} {cs : List Nat} {z : Str} (h : Laid zs cs z) (ht : ∀ s ∈ zs, Tok s.cps.toList) : splitL z.cps.toList 1 = .ok ((zs.map (·.cps.toList)).zip cs) := by
  obtain ⟨l, t, gs, rfl, h2, h3, h4, _⟩ := h
  rw [h4, splitL_spaces, split_lay h3, h2]
  intro x hx
  have : x.2 ∈ zs.map (·.cps.toList) := by
    rw [← h2]
    exact List.mem_map.mpr ⟨x, hx, rfl⟩
  obtain ⟨s, hs, e⟩ := List.mem_map.mp this
  rw [← e]
  exact ht s hs
theorem Laid.bad {us vs : List Str} {c : Nat} {cs : List Nat} {z : Str} (h : Laid (us ++ (⟨#[c]⟩ : Str) :: vs) cs z) (ht : ∀ s ∈ us, Tok s.cps.toList) (hc : Strange c) : ∃ e, splitL z.cps.toList 1 = .error e ∧ cs[us.length]? = some e := by
  obtain ⟨l, t, gs, rfl, h2, h3, h4, _⟩ := h
  rw [List.map_append, List.map_cons] at h2
  obtain ⟨xs, r, rfl, e1, e2⟩ := List.map_eq_append_iff.mp h2
  obtain ⟨⟨g, p⟩, ys, rfl, e3, e4⟩ := List.map_eq_cons_iff.mp e2
  have e3 : p = [c] := e3
  subst e3
  have hl : xs.length = us.length := by
    have := congrArg List.length e1
    rwa [List.length_map, List.length_map] at this
  obtain ⟨e, q1, q2⟩ := split_bad (t := t) (c := 1 + l) h3 (fun x hx => by
    have : x.2 ∈ us.map (·.cps.toList) := by
      rw [← e1]
      exact List.mem_map.mpr ⟨x, hx, rfl⟩
    obtain ⟨s, hs, e⟩ := List.mem_map.mp this
    rw [← e]
    exact ht s hs) hc
  refine ⟨e, ?_, by rw [← hl]; exact q2⟩
  rw [h4, splitL_spaces]
  exact q1
def tkz (zs : List Str) (j : Nat) : List Nat := (zs[j]?.map (·.cps.toList)).getD []
theorem tokAt_zip {zs : List Str} {cs : List Nat} (h : cs.length = zs.length) (j : Nat) : tokAt ((zs.map (·.cps.toList)).zip cs) j = tkz zs j := by
  unfold tokAt tkz
  rw [← List.getElem?_map, List.map_fst_zip (by rw [List.length_map, h]; exact Nat.le_refl _), List.getElem?_map]
theorem zip_len {zs : List Str} {cs : List Nat} (h : cs.length = zs.length) : ((zs.map (·.cps.toList)).zip cs).length = zs.length := by
  rw [List.length_zip, List.length_map, h, Nat.min_self]
def colV (n : Nat) : V := .int (n : Int)
def colN (cs : List Nat) (k : Nat) (e : Int) : Int := (cs[k]?.map (fun n : Nat => (n : Int))).getD e
theorem colAt_zip {zs : List Str} {cs : List Nat} (h : cs.length = zs.length) (j : Nat) (e : Int) : colAt ((zs.map (·.cps.toList)).zip cs) e j = colN cs j e := by
  unfold colAt colN
  have : ((zs.map (·.cps.toList)).zip cs).map (·.2) = cs := List.map_snd_zip (by rw [List.length_map, h]; exact Nat.le_refl _)
  conv => rhs; rw [← this, List.getElem?_map, Option.map_map]
  rfl
theorem ws_zip {zs : List Str} {cs : List Nat} (h : cs.length = zs.length) : wsOf ((zs.map (·.cps.toList)).zip cs) = zs := by
  unfold wsOf
  rw [show (fun x : List Nat × Nat => mkS x.1) = mkS ∘ Prod.fst from rfl, ← List.map_map, List.map_fst_zip (by rw [List.length_map, h]; exact Nat.le_refl _), List.map_map]
  conv => rhs; rw [← List.map_id zs]
  exact List.map_congr_left fun z _ => mkS_self z
/-! ### strange pieces -/
def strangeL : List Str := ["!", "A", "=", "-", "_", ".", "\n", "&", "Take", "{", "`"]
theorem strange_ok : ∀ z ∈ strangeL, (match z.cps.toList with
    | c :: r => !isL c && !isD c && decide (c ≠ 32) && !inSM [c] && (match r with
      | [] => true
      | d :: _ => !touchB [c] [d])
    | [] => false) = true ∧ z.length ≤ 13 ∧ 0 < z.length ∧ isName z = false ∧ z ∉ deeds := by decide +kernel
theorem apart_end : ∀ {xs ys : List (Nat × List Nat)}, Apart (xs ++ ys) → Apart ys
  | [], _, h => h
  | _ :: _, _, h => apart_end (Apart.tail h)
theorem split_badw {t : Nat} : ∀ {xs ys : List (Nat × List Nat)} {g s c : Nat} {r : List Nat}, Apart (xs ++ (g, s :: r) :: ys) → (∀ x ∈ xs, Tok x.2) → Strange s → Sep [s] (r ++ lay ys (List.replicate t 32)) → ∃ e, splitL (lay (xs ++ (g, s :: r) :: ys) (List.replicate t 32)) c = .error e ∧ (cols c (xs ++ (g, s :: r) :: ys))[xs.length]? = some e
  | [], ys, g, s, c, r, ha, _, hs, hq => by
    refine ⟨c + g, ?_, rfl⟩
    rw [List.nil_append, lay, splitL_spaces]
    exact splitL_bad (tokLen_strange hs hq) hs.2.2.1
  | (g', p) :: xs, ys, g, s, c, r, ha, ht, hs, hq => by
    have hp := ht (g', p) List.mem_cons_self
    have hl : tokLen (p ++ lay (xs ++ (g, s :: r) :: ys) (List.replicate t 32)) = p.length := tokLen_tok hp (sep_lay (t := t) ha)
    have hpos : 0 < p.length := List.length_pos_iff.mpr (tok_ne hp)
    obtain ⟨e, h1, h2⟩ := split_badw (t := t) (xs := xs) (ys := ys) (g := g) (s := s) (c := c + g' + p.length) (r := r) ha.tail (fun x hx => ht x (List.mem_cons_of_mem _ hx)) hs hq
    refine ⟨e, ?_, h2⟩
    rw [List.cons_append, lay, splitL_spaces, splitL_tok (by rw [hl]; exact hpos), hl, List.drop_left, List.take_left, h1]
theorem Laid.badw {us vs : List Str} {w : Str} {cs : List Nat} {z : Str} (h : Laid (us ++ w :: vs) cs z) (ht : ∀ s ∈ us, Tok s.cps.toList) (hw : w ∈ strangeL) : ∃ e, splitL z.cps.toList 1 = .error e ∧ cs[us.length]? = some e := by
  obtain ⟨l, t, gs, rfl, h2, h3, h4, _⟩ := h
  rw [List.map_append, List.map_cons] at h2
  obtain ⟨xs, r, rfl, e1, e2⟩ := List.map_eq_append_iff.mp h2
  obtain ⟨⟨g, p⟩, ys, rfl, e3, e4⟩ := List.map_eq_cons_iff.mp e2
  have e3 : p = w.cps.toList := e3
  obtain ⟨k, _, _, _⟩ := strange_ok w hw
  rw [← e3] at k
  clear e3 e2 h2
  match p, k with
  | s :: q, k =>
    simp only [Bool.and_eq_true, Bool.not_eq_true', decide_eq_true_iff] at k
    obtain ⟨⟨⟨⟨k1, k2⟩, k3⟩, k4⟩, k5⟩ := k
    have hl : xs.length = us.length := by
      have := congrArg List.length e1
      rwa [List.length_map, List.length_map] at this
    have sep : Sep [s] (q ++ lay ys (List.replicate t 32)) := by
      cases q with
      | nil => exact sep_lay (t := t) (apart_end h3)
      | cons d q' =>
        intro c r' e
        cases e
        exact .inr (by simpa using k5)
    obtain ⟨e, q1, q2⟩ := split_badw (t := t) (c := 1 + l) h3 (fun x hx => by
      have : x.2 ∈ us.map (·.cps.toList) := by
        rw [← e1]
        exact List.mem_map.mpr ⟨x, hx, rfl⟩
      obtain ⟨s, hs, e⟩ := List.mem_map.mp this
      rw [← e]
      exact ht s hs) ⟨k1, k2, k3, k4⟩ sep
    refine ⟨e, ?_, by rw [← hl]; exact q2⟩
    rw [h4, splitL_spaces]
    exact q1
/-- what is due for a line of pieces -/
def DueIs (zs : List Str) (cs : List Nat) (n : Int) (o : Out) : Prop :=
  (∃ (k : Nat) (z : Str) (c : Nat), zs[k]? = some z ∧ z ∈ strangeL ∧ (∀ j y, j < k → zs[j]? = some y → y ∉ strangeL) ∧ cs[k]? = some c ∧ o = .bad (c : Int)) ∨
  ((∀ z ∈ zs, z ∉ strangeL) ∧ ((∃ i, Stuck isName zs i ∧ o = .bad (colN cs i n) ∧ (i < zs.length → i < cs.length) ∧ (zs.length ≤ i → cs.length ≤ i)) ∨ ∃ c, goT isName zs zs.length = some c ∧ okEnd c.g = true ∧ o = ofAcc c))
theorem due_out {zs : List Str} {cs : List Nat} {z : Str} {o : Out} (h : Laid zs cs z) (hp : ∀ s ∈ zs, s ∉ strangeL → Tok s.cps.toList) (d : DueIs zs cs ((z.length : Int) + 1) o) : OutIs z o := by
  unfold OutIs
  rcases d with ⟨k, w, c, e1, e2, e3, e4, rfl⟩ | ⟨d1, d2⟩
  · obtain ⟨hk, ek⟩ := List.getElem?_eq_some_iff.mp e1
    have ez : zs = zs.take k ++ w :: zs.drop (k + 1) := by
      rw [← ek, ← List.drop_eq_getElem_cons hk]
      exact (List.take_append_drop k zs).symm
    have hl : (zs.take k).length = k := by rw [List.length_take]; omega
    obtain ⟨e, h1, h2⟩ := Laid.badw (us := zs.take k) (vs := zs.drop (k + 1)) (w := w) (by rw [← ez]; exact h) (fun s hs => by
      obtain ⟨j, hj, ej⟩ := List.getElem_of_mem hs
      rw [List.length_take] at hj
      have ej2 : zs[j]? = some s := by
        rw [← ej, List.getElem_take, List.getElem?_eq_getElem]
      exact hp s (List.mem_of_getElem? ej2) (e3 j s (by omega) ej2)) e2
    rw [h1]
    rw [hl, e4] at h2
    cases h2
    rfl
  · rw [h.split fun s hs => hp s hs (d1 s hs)]
    show (∃ i, _) ∨ _
    rw [ws_zip h.len]
    rcases d2 with ⟨i, st, rfl, _⟩ | ⟨c, g, ok, rfl⟩
    · exact .inl ⟨i, st, by rw [colAt_zip h.len]⟩
    · exact .inr ⟨c, by rw [zip_len h.len]; exact g, ok, rfl⟩
theorem laid_pre {zs : List Str} {cs : List Nat} {z : Str} (h : Laid zs cs z) (hp : ∀ s ∈ zs, s ∉ strangeL → Tok s.cps.toList) (hl : ∀ s ∈ zs, s.length ≤ 13) (few : zs.length < 64) : LinePre z := by
  refine ⟨(by obtain ⟨_, _, _, _, _, _, _, h⟩ := h; exact h), fun toks e => ?_⟩
  by_cases c : ∀ s ∈ zs, s ∉ strangeL
  · rw [h.split fun s hs => hp s hs (c s hs)] at e
    cases e
    refine ⟨fun x hx => ?_, by rw [zip_len h.len]; exact few⟩
    have hx := List.of_mem_zip (a := x.1) (b := x.2) hx
    obtain ⟨s, hs, e⟩ := List.mem_map.mp hx.1
    have := hl s hs
    have := h.le _ hx.2
    rw [← e, len_cps]
    omega
  · exfalso
    have : ∃ (k : Nat) (w : Str), zs[k]? = some w ∧ w ∈ strangeL ∧ ∀ (j : Nat) (y : Str), j < k → zs[j]? = some y → y ∉ strangeL := by
      clear h hp hl few e
      induction zs with
      | nil => exact absurd (fun _ h => nomatch h) c
      | cons a r ih =>
        by_cases ha : a ∈ strangeL
        · exact ⟨0, a, rfl, ha, fun j y hj => absurd hj (Nat.not_lt_zero j)⟩
        · obtain ⟨k, w, h1, h2, h3⟩ := ih fun h => c fun s hs => (List.mem_cons.mp hs).elim (fun e => e ▸ ha) (h s)
          refine ⟨k + 1, w, h1, h2, fun j y hj e => ?_⟩
          cases j with
          | zero => cases e; exact ha
          | succ j => exact h3 j y (by omega) e
    obtain ⟨k, w, e1, e2, e3⟩ := this
    obtain ⟨c, hc⟩ : ∃ c, cs[k]? = some c := ⟨_, List.getElem?_eq_getElem (by rw [h.len]; exact (List.getElem?_eq_some_iff.mp e1).1)⟩
    have := due_out h hp (o := .bad (c : Int)) (.inl ⟨k, w, c, e1, e2, e3, hc, rfl⟩)
    unfold OutIs at this
    rw [e] at this
    obtain ⟨hk, ek⟩ := List.getElem?_eq_some_iff.mp e1
    have ez : zs = zs.take k ++ w :: zs.drop (k + 1) := by
      rw [← ek, ← List.drop_eq_getElem_cons hk]
      exact (List.take_append_drop k zs).symm
    obtain ⟨e', h1, _⟩ := Laid.badw (us := zs.take k) (vs := zs.drop (k + 1)) (w := w) (by rw [← ez]; exact h) (fun s hs => by
      obtain ⟨j, hj, ej⟩ := List.getElem_of_mem hs
      rw [List.length_take] at hj
      have ej2 : zs[j]? = some s := by
        rw [← ej, List.getElem_take, List.getElem?_eq_getElem]
      exact hp s (List.mem_of_getElem? ej2) (e3 j s (by omega) ej2)) e2
    rw [e] at h1
    cases h1
def sp__law_strange (K : PySem.W.Frag) : Sp := fun vs H Q _ => vs = [] ∧ ∀ (H' : Hp) (p : Addr), Same H H' → H p = none → H' p = some (.lst (strangeL.map V.str)) → Q (.ref p) H'
theorem len__law_strange {vs : List V} {H : Hp} {Q : VK} {E : XK} (h : sp__law_strange K vs H Q E) : vs.length = 0 := by
  obtain ⟨rfl, _⟩ := h
  rfl
theorem ok__law_strange {f : Addr} {fd : FuncData} (F : Fun K "_law_strange" "_law_strange" s__law_strange f fd) (T : Gs K mg t_DIGITS t_LETTERS t_LONGEST_NAME a_DEEDS a_MARKS a_RESERVED a_SIGNS a_BadName a_BadPlan a_BadText a_ElseputError a_Plan a_Reader) : FnOk P w K mg base CX0 1 f fd [] (sp__law_strange K) := by
  refine F.ok sc__law_strange (fun vs H Q E h => len__law_strange h) (fun cdv A outer s H vs Q E hr h => ?_)
  obtain ⟨rfl, q⟩ := h
  refine ⟨_, (pss_one (ps_ret (pe_lst (pa_cons pe_str (pa_cons pe_str (pa_cons pe_str (pa_cons pe_str (pa_cons pe_str (pa_cons pe_str (pa_cons pe_str (pa_cons pe_str (pa_cons pe_str (pa_cons pe_str (pa_cons pe_str pa_nil)))))))))))))), ?_⟩
  exact ⟨(by show 11 ≤ sizeLine; decide), fun p np => q _ p (same_new np) np upd_same⟩
end
section
variable {P : Program} {w : World} {K : PySem.W.Frag} {mg : Str → Option Value} {base : Heap}
variable {t_DIGITS t_LETTERS t_LONGEST_NAME : Tok} {a_DEEDS a_MARKS a_RESERVED a_SIGNS a_BadName a_BadPlan a_BadText a_ElseputError a_Plan a_Reader : Addr}
/-! ### the pieces of a plan -/
def pw (ps : List Stp) : List Str := ps.flatMap fun p => ["," , p.1, p.2]
def ow (w : Str) (zs : List Str) : List Str := if zs = [] then [] else ";" :: w :: zs
def wds (ps : List Stp) (lk kp : List Str) : List Str := (pw ps ++ ow "lock" lk ++ ow "keep" kp).drop 1
theorem pw_len {ps : List Stp} : (pw ps).length = 3 * ps.length := by
  induction ps with
  | nil => rfl
  | cons a r ih =>
    unfold pw at ih ⊢
    rw [List.flatMap_cons, List.length_append, ih]
    show 3 + 3 * r.length = 3 * (r.length + 1)
    omega
theorem pw_snoc {ps : List Stp} {p : Stp} : pw (ps ++ [p]) = pw ps ++ [(",":Str), p.1, p.2] := by
  unfold pw
  rw [List.flatMap_append]
  rfl
theorem ow_len {w : Str} {zs : List Str} : (ow w zs).length ≤ zs.length + 2 := by
  unfold ow
  split
  · exact Nat.zero_le _
  · rw [List.length_cons, List.length_cons]
    omega
def sp__law_parts (K : PySem.W.Frag) : Sp := fun vs H Q _ => ∃ (R L M : Addr) (ps : List Stp) (lk kp : List Str), vs = [.ref R, .ref L, .ref M] ∧ (∃ us, H R = some (.lst us) ∧ PairsIn K H us ps) ∧ H L = some (.lst (lk.map V.str)) ∧ H M = some (.lst (kp.map V.str)) ∧ ps.length ≤ 100 ∧ lk.length ≤ 100 ∧ kp.length ≤ 100 ∧
  ∀ (H' : Hp) (p : Addr), Same H H' → H p = none → H' p = some (.lst ((wds ps lk kp).map V.str)) → Q (.ref p) H'
theorem len__law_parts {vs : List V} {H : Hp} {Q : VK} {E : XK} (h : sp__law_parts K vs H Q E) : vs.length = 3 := by
  obtain ⟨_, _, _, _, _, _, rfl, _⟩ := h
  rfl
theorem ok__law_parts {f : Addr} {fd : FuncData} (F : Fun K "_law_parts" "_law_parts" s__law_parts f fd) (T : Gs K mg t_DIGITS t_LETTERS t_LONGEST_NAME a_DEEDS a_MARKS a_RESERVED a_SIGNS a_BadName a_BadPlan a_BadText a_ElseputError a_Plan a_Reader) : FnOk P w K mg base CX0 1 f fd ["_law_steps", "_law_row_keys", "_law_held_keys"] (sp__law_parts K) := by
  refine F.ok sc__law_parts (fun vs H Q E h => len__law_parts h) (fun cdv A outer s H vs Q E hr h => ?_)
  obtain ⟨R, L, M, ps, lk, kp, rfl, ⟨vs, hR, hp⟩, hL, hM, h1, h2, h3, q⟩ := h
  refine ⟨_, (pss_cons (ps_set (i := 3) sc__law_parts.nd rfl (.inl rfl) (pe_lst pa_nil)) (pss_cons (ps_for PassesOwn.never rfl (pi_list (v_ 0)) (pg_name (i := 4) sc__law_parts.nd rfl (.inl rfl)) (pss_one (ps_set (i := 3) sc__law_parts.nd rfl (.inl rfl) (pe_op (addK K) (v_ 3) (pe_lst (pa_cons pe_str (pa_cons (e_x K (v_ 4) pe_int) (pa_cons (e_x K (v_ 4) pe_int) pa_nil)))))))) (Evl.pss_cut (ps_if (pt_c op_gtM (pe_callB (lenK K) (by rfl) T.z_len PySem.boot_len (pa_cons (v_ 1) pa_nil)) pe_int) (pss_one (ps_set (i := 3) sc__law_parts.nd rfl (.inl rfl) (pe_op (addK K) (pe_op (addK K) (v_ 3) (pe_lst (pa_cons pe_str (pa_cons pe_str pa_nil)))) (v_ 1)))) pss_nil) (Evl.pss_cut (ps_if (pt_c op_gtM (pe_callB (lenK K) (by rfl) T.z_len PySem.boot_len (pa_cons (v_ 2) pa_nil)) pe_int) (pss_one (ps_set (i := 3) sc__law_parts.nd rfl (.inl rfl) (pe_op (addK K) (pe_op (addK K) (v_ 3) (pe_lst (pa_cons pe_str (pa_cons pe_str pa_nil)))) (v_ 2)))) pss_nil) (pss_one (ps_ret (pe_slice (slK K) (v_ 3) (po_some pe_int) po_none))))))), ?_⟩
  have vl := pairs_len hp
  refine ⟨Nat.zero_le _, fun P nP => ?_⟩
  have sP := same_new (o := .lst []) nP
  refine ⟨R, rfl, ⟨_, SqL.of (sP _ _ hR)⟩, ?_⟩
  refine for_list (K := K) (a := R) (xs := vs) (fun i σ' H' => ∃ (y : Option V) (P : Addr), σ' = [some (.ref R), some (.ref L), some (.ref M), some (.ref P), y] ∧ Same H H' ∧ H' P = some (.lst ((pw (ps.take i)).map V.str))) ⟨_, P, rfl, sP, upd_same⟩ (fun i σ' H' _ h => by obtain ⟨_, _, _, h, _⟩ := h; exact SqL.of (h _ _ hR)) ?_ ?_
  · rintro i v σ' H1 hi ⟨y, P, rfl, s1, eP⟩
    obtain ⟨⟨d, z⟩, e, r, rfl, hr⟩ := pairs_at (pairs_same hp s1) hi
    refine ⟨_, .inr hr, .str d, rfl, _, .inr hr, .str z, rfl, (by show 3 ≤ sizeLine; decide), fun p2 n2 => ?_⟩
    have q2 := same_new (o := .lst [.str ",", .str d, .str z]) n2
    have pl := pw_len (ps := ps.take i)
    rw [List.length_take] at pl
    refine .inl ⟨_, _, q2 _ _ eP, upd_same, line_of (by rw [List.length_map]; show _ + 3 ≤ _; omega), fun p3 n3 => ?_⟩
    have q3 := same_new (o := .lst ((pw (ps.take i)).map V.str ++ [.str ",", .str d, .str z])) n3
    refine ⟨_, p3, rfl, (s1.trans q2).trans q3, ?_⟩
    rw [upd_same, take_snoc e, pw_snoc, List.map_append]
    rfl
  rintro σ' H1 ⟨y, P, rfl, s1, eP⟩
  rw [vl, List.take_length] at eP
  have pl := pw_len (ps := ps)
  have ol := ow_len (w := "lock") (zs := lk)
  have ol2 := ow_len (w := "keep") (zs := kp)
  clear sP nP
  refine ⟨fun σ' H' => ∃ P : Addr, σ' = [some (.ref R), some (.ref L), some (.ref M), some (.ref P), y] ∧ Same H H' ∧ H' P = some (.lst ((pw ps ++ ow "lock" lk).map V.str)), ?_, ?_⟩
  · refine .inl ⟨_, .inl (SqL.of (s1 _ _ hL)), ?_⟩
    rw [List.length_map]
    refine ite2 (fun c => ?_) (fun c => ?_)
    · have c : (0 : Int) < lk.length := of_decide_eq_true c
      have eo : ow "lock" lk = (";":Str) :: ("lock":Str) :: lk := by
        unfold ow
        rw [if_neg (fun h => by rw [h] at c; exact absurd c (by decide))]
      refine ⟨(by show 2 ≤ sizeLine; decide), fun p2 n2 => ?_⟩
      have q2 := same_new (o := .lst [.str ";", .str "lock"]) n2
      refine .inl ⟨_, _, q2 _ _ eP, upd_same, line_of (by rw [List.length_map]; show _ + 2 ≤ _; omega), fun p3 n3 => ?_⟩
      have q3 := same_new (o := .lst ((pw ps).map V.str ++ [.str ";", .str "lock"])) n3
      have q23 := q2.trans q3
      refine .inl ⟨_, _, upd_same, q23 _ _ (s1 _ _ hL), line_of (by rw [List.length_append, List.length_map, List.length_map]; show _ + 2 + _ ≤ _; omega), fun p4 n4 => ?_⟩
      have q4 := same_new (o := .lst ((pw ps).map V.str ++ [.str ";", .str "lock"] ++ lk.map V.str)) n4
      refine ⟨p4, rfl, (s1.trans q23).trans q4, ?_⟩
      rw [upd_same, eo, List.map_append, List.append_assoc]
      rfl
    · have c : ¬ (0 : Int) < lk.length := of_decide_eq_false (Bool.eq_false_iff.mpr c)
      have eo : ow "lock" lk = [] := by
        unfold ow
        rw [if_pos (List.eq_nil_of_length_eq_zero (by omega))]
      exact ⟨P, rfl, s1, by rw [eo, List.append_nil]; exact eP⟩
  rintro σ' H2 ⟨P2, rfl, s2, eP2⟩
  refine ⟨fun σ' H' => ∃ P : Addr, σ' = [some (.ref R), some (.ref L), some (.ref M), some (.ref P), y] ∧ Same H H' ∧ H' P = some (.lst ((pw ps ++ ow "lock" lk ++ ow "keep" kp).map V.str)), ?_, ?_⟩
  · refine .inl ⟨_, .inl (SqL.of (s2 _ _ hM)), ?_⟩
    rw [List.length_map]
    refine ite2 (fun c => ?_) (fun c => ?_)
    · have c : (0 : Int) < kp.length := of_decide_eq_true c
      have eo : ow "keep" kp = (";":Str) :: ("keep":Str) :: kp := by
        unfold ow
        rw [if_neg (fun h => by rw [h] at c; exact absurd c (by decide))]
      refine ⟨(by show 2 ≤ sizeLine; decide), fun p2 n2 => ?_⟩
      have q2 := same_new (o := .lst [.str ";", .str "keep"]) n2
      refine .inl ⟨_, _, q2 _ _ eP2, upd_same, line_of (by rw [List.length_map, List.length_append]; show _ + 2 ≤ _; omega), fun p3 n3 => ?_⟩
      have q3 := same_new (o := .lst ((pw ps ++ ow "lock" lk).map V.str ++ [.str ";", .str "keep"])) n3
      have q23 := q2.trans q3
      refine .inl ⟨_, _, upd_same, q23 _ _ (s2 _ _ hM), line_of (by rw [List.length_append, List.length_map, List.length_map, List.length_append]; show _ + 2 + _ ≤ _; omega), fun p4 n4 => ?_⟩
      have q4 := same_new (o := .lst ((pw ps ++ ow "lock" lk).map V.str ++ [.str ";", .str "keep"] ++ kp.map V.str)) n4
      refine ⟨p4, rfl, (s2.trans q23).trans q4, ?_⟩
      rw [upd_same, eo, List.map_append, List.map_append, List.map_append, List.append_assoc]
      rfl
    · have c : ¬ (0 : Int) < kp.length := of_decide_eq_false (Bool.eq_false_iff.mpr c)
      have eo : ow "keep" kp = [] := by
        unfold ow
        rw [if_pos (List.eq_nil_of_length_eq_zero (by omega))]
      exact ⟨P2, rfl, s2, by rw [eo, List.append_nil]; exact eP2⟩
  rintro σ' H3 ⟨P3, rfl, s3, eP3⟩
  refine ⟨1, rfl, .inl ⟨_, SqL.of eP3, fun p1 n1 => ?_⟩⟩
  rw [cutV_drop _ (by decide)]
  refine q _ p1 (s3.trans (same_new n1)) (Same.free s3 n1) ?_
  rw [upd_same]
  unfold wds
  rw [List.map_drop]
  rfl
/-! ### laying a line -/
theorem touch_m1 {p q : List Nat} (h : p = [44] ∨ p = [59]) : touchB p q = false := by
  unfold touchB
  rcases h with rfl | rfl
  · rw [show [44].getLastD 0 = 44 from rfl, show isL 44 = false by decide, show isD 44 = false by decide]
    simp
  · rw [show [59].getLastD 0 = 59 from rfl, show isL 59 = false by decide, show isD 59 = false by decide]
    simp
theorem touch_m2 {p q : List Nat} (h : q = [44] ∨ q = [59]) : touchB p q = false := by
  unfold touchB
  rcases h with rfl | rfl
  · rw [show [44].headD 0 = 44 from rfl, show isL 44 = false by decide, show isD 44 = false by decide, decide_eq_false (show ¬ (44 : Nat) = 61 by decide)]
    simp
  · rw [show [59].headD 0 = 59 from rfl, show isL 59 = false by decide, show isD 59 = false by decide, decide_eq_false (show ¬ (59 : Nat) = 61 by decide)]
    simp
theorem marks_in {z : Str} : inV (.str z) [.str ",", .str ";"] = decide (z.cps.toList = [44] ∨ z.cps.toList = [59]) := by
  refine (inV_strC (z := z) (xs := [",", ";"])).trans ?_
  rw [show ([",", ";"] : List Str).map (·.cps.toList) = [[44], [59]] by decide +kernel, Bool.eq_iff_iff, decide_eq_true_iff, decide_eq_true_iff, List.mem_cons, List.mem_singleton]
def sp__law_line (K : PySem.W.Frag) : Sp := fun vs H Q _ => ∃ (st scr p : Addr) (zs : List Str), vs = [.ref st, .ref p] ∧ DrAt H st scr ∧ H p = some (.lst (zs.map V.str)) ∧ p ≠ st ∧ zs.length ≤ 100 ∧ (∀ z ∈ zs, 0 < z.length ∧ z.length ≤ 13) ∧
  ∀ (H' : Hp) (t c : Addr) (line : Str) (cs : List Nat), Bt st H H' → DrAt H' st scr → H t = none → H' t = some (.tup [.str line, .ref c]) → c ≠ st → H' c = some (.lst (cs.map colV)) → Laid zs cs line → Q (.ref t) H'
theorem len__law_line {vs : List V} {H : Hp} {Q : VK} {E : XK} (h : sp__law_line K vs H Q E) : vs.length = 2 := by
  obtain ⟨_, _, _, _, rfl, _⟩ := h
  rfl
theorem ok__law_line {f : Addr} {fd : FuncData} {f__law_draw : Addr} {fd__law_draw : FuncData} (F : Fun K "_law_line" "_law_line" s__law_line f fd) (T : Gs K mg t_DIGITS t_LETTERS t_LONGEST_NAME a_DEEDS a_MARKS a_RESERVED a_SIGNS a_BadName a_BadPlan a_BadText a_ElseputError a_Plan a_Reader) (c__law_draw : Cal P w K mg base CX0 1 "_law_draw" f__law_draw fd__law_draw ["_law_state_here", "_law_many"] (sp__law_draw K)) : FnOk P w K mg base CX0 2 f fd ["_law_state_here", "_law_parts_here"] (sp__law_line K) := by
  refine F.ok sc__law_line (fun vs H Q E h => len__law_line h) (fun cdv A outer s H vs Q E hr h => ?_)
  obtain ⟨st, scr, p, zs, rfl, hd, hp, hne, hl, hz, q⟩ := h
  refine ⟨_, (pss_cons (ps_set (i := 2) sc__law_line.nd rfl (.inl rfl) (pe_op op_mulSM pe_str (pe_call c__law_draw.G (hr.mono (by first | decide | omega)) rfl c__law_draw.m c__law_draw.kp c__law_draw.b .nil pass0 (pa_cons (v_ 0) (pa_cons pe_int pa_nil))))) (pss_cons (ps_set (i := 3) sc__law_line.nd rfl (.inl rfl) (pe_lst pa_nil)) (pss_cons (ps_for PassesOwn.never rfl (pi_range1 rfl T.z_range (pa_cons (pe_callB (lenK K) (by rfl) T.z_len PySem.boot_len (pa_cons (v_ 1) pa_nil)) pa_nil)) (pg_name (i := 4) sc__law_line.nd rfl (.inl rfl)) (pss_cons (ps_set (i := 5) sc__law_line.nd rfl (.inl rfl) (pe_call c__law_draw.G (hr.mono (by first | decide | omega)) rfl c__law_draw.m c__law_draw.kp c__law_draw.b .nil pass0 (pa_cons (v_ 0) (pa_cons pe_int pa_nil)))) (Evl.pss_cut (ps_if (PW.pt (pw_and (pt_c op_gtM (v_ 4) pe_int) (pw_and (pt_c (notInK K) (e_x K (v_ 1) (v_ 4)) (pe_lst (pa_cons pe_str (pa_cons pe_str pa_nil)))) (pw_and1 (pt_c (notInK K) (e_x K (v_ 1) (pe_op op_subM (v_ 4) pe_int)) (pe_lst (pa_cons pe_str (pa_cons pe_str pa_nil)))))))) (pss_one (ps_set (i := 5) sc__law_line.nd rfl (.inl rfl) (pe_op (addK K) (v_ 5) pe_int))) pss_nil) (pss_cons (ps_set (i := 2) sc__law_line.nd rfl (.inl rfl) (pe_op (addK K) (v_ 2) (pe_op op_mulSM pe_str (v_ 5)))) (pss_cons (ps_expr (pe_bm PySem.F.plainAttrs_list PySem.F.slot_list_append PySem.F.type_list_append mt_append (v_ 3) (pa_cons (pe_op (addK K) (pe_callB (lenK K) (by rfl) T.z_len PySem.boot_len (pa_cons (v_ 2) pa_nil)) pe_int) pa_nil))) (pss_one (ps_set (i := 2) sc__law_line.nd rfl (.inl rfl) (pe_op (addK K) (v_ 2) (e_x K (v_ 1) (v_ 4)))))))))) (pss_one (ps_ret (pe_tup (pa_cons (pe_op (addK K) (v_ 2) (pe_op op_mulSM pe_str (pe_call c__law_draw.G (hr.mono (by first | decide | omega)) rfl c__law_draw.m c__law_draw.kp c__law_draw.b .nil pass0 (pa_cons (v_ 0) (pa_cons pe_int pa_nil))))) (pa_cons (v_ 3) pa_nil)))))))), ?_⟩
  refine ⟨st, scr, _, rfl, hd, by decide, many_small (by decide) (by decide), fun ld l r0 r1 hd => ?_⟩
  have b1 : Bt st H (upd H st (.lst l)) := Bt.st
  generalize upd H st (.lst l) = H1 at hd b1 ⊢
  refine ⟨by omega, by omega, by decide, ?_⟩
  refine ⟨Nat.zero_le _, fun c nc => ?_⟩
  have cs : c ≠ st := hd.ne_new nc
  have cc : c ≠ scr := hd.ne_scr nc
  have c0 : H c = none := b1.free cs nc
  have hp1 := b1 _ _ hne hp
  refine .inl ⟨_, .inl (SqL.of (same_new nc _ _ hp1)), ?_⟩
  rw [List.length_map]
  refine ⟨_, rfl, by omega, by omega, ?_⟩
  have e32 : ∀ k : Int, (repS " " k).cps.toList = List.replicate k.toNat 32 := fun k => repS1
  have l32 : ∀ k : Int, (repS " " k).length = k.toNat := fun k => by rw [← len_cps, e32, List.length_replicate]
  refine for_range (lo := 0) (n := zs.length) (fun i σ' H' => ∃ (line : Str) (y z : Option V) (gs : List (Nat × List Nat)), σ' = [some (.ref st), some (.ref p), some (.str line), some (.ref c), y, z] ∧ Bt st H H' ∧ DrAt H' st scr ∧
    H' c = some (.lst ((cols (1 + ld.toNat) gs).map colV)) ∧ gs.map (·.2) = (zs.take i).map (·.cps.toList) ∧ Apart gs ∧ line.cps.toList = List.replicate ld.toNat 32 ++ lay gs [] ∧ line.length ≤ 2 + 16 * i) ?_ ?_ ?_
  · refine ⟨_, _, _, [], rfl, b1.trans (.same (same_new nc)), hd.new (same_new nc), upd_same, rfl, trivial, ?_, ?_⟩
    · rw [e32]
      exact (List.append_nil _).symm
    · rw [l32]
      omega
  · rintro i σ' H' hi ⟨line, y, z, gs, rfl, bt, hd, hc, hgs, hap, hline, hll⟩
    obtain ⟨zi, hzi⟩ : ∃ zi, zs[i]? = some zi := ⟨zs[i], List.getElem?_eq_getElem hi⟩
    obtain ⟨zi0, zi1⟩ := hz zi (List.mem_of_getElem? hzi)
    have ezi : atI (zs.map V.str) (0 + (i : Int)) = some (.str zi) := by rw [Int.zero_add]; exact atI_nat (by rw [List.getElem?_map, hzi]; rfl)
    have hgl : gs.length = i := by
      have := congrArg List.length hgs
      rw [List.length_map, List.length_map, List.length_take] at this
      omega
    refine ⟨st, scr, _, rfl, hd, by decide, many_small (by decide) (by decide), fun g0 l' g1 g2 hd' => ?_⟩
    have bt2 := bt.trans (Bt.st (st := st) (o := .lst l'))
    have hc2 : upd H' st (.lst l') c = some (.lst ((cols (1 + ld.toNat) gs).map colV)) := by rw [upd_ne cs]; exact hc
    have hp2 := bt2 _ _ hne hp
    generalize upd H' st (.lst l') = H2 at bt2 hd' hc2 hp2 ⊢
    have hlast : ∀ x, gs.getLast? = some x → ∃ zj, zs[i - 1]? = some zj ∧ x.2 = zj.cps.toList ∧ 0 < i := fun x hx => by
      rw [List.getLast?_eq_getElem?, hgl] at hx
      have hi0 : 0 < i := by
        have := (List.getElem?_eq_some_iff.mp hx).1
        omega
      have h2 := congrArg (·[i - 1]?) hgs
      simp only [List.getElem?_map, hx, List.getElem?_take] at h2
      rw [if_pos (by omega)] at h2
      cases h3 : zs[i - 1]? with
      | none => rw [h3] at h2; cases h2
      | some zj => rw [h3] at h2; exact ⟨zj, rfl, Option.some.inj h2, hi0⟩
    refine ⟨fun σ' H3 => ∃ g : Int, σ' = [some (.ref st), some (.ref p), some (.str line), some (.ref c), some (.int (0 + i)), some (.int g)] ∧ Same H2 H3 ∧ 0 ≤ g ∧ g ≤ 3 ∧ ∀ x, gs.getLast? = some x → g = 0 → touchB x.2 zi.cps.toList = false, ?_, ?_⟩
    · refine ite2 (fun e1 => ?_) (fun e1 => ?_)
      · have e1 : (0 : Int) < 0 + i := of_decide_eq_true e1
        obtain ⟨zj, hzj⟩ : ∃ zj, zs[i - 1]? = some zj := ⟨_, List.getElem?_eq_getElem (by omega)⟩
        have ezj : atI (zs.map V.str) (0 + (i : Int) - 1) = some (.str zj) := by
          rw [show (0 : Int) + i - 1 = ((i - 1 : Nat) : Int) by omega]
          exact atI_nat (by rw [List.getElem?_map, hzj]; rfl)
        refine ⟨_, .inl (SqL.of hp2), _, ezi, (by show 2 ≤ sizeLine; decide), fun w1 nw1 => ?_⟩
        have sw1 := same_new (o := .lst [.str ",", .str ";"]) nw1
        refine ⟨_, .inl (SqL.of upd_same), rfl, rfl, ?_⟩
        have em := marks_in (z := zi)
        refine ite2 (fun e2 => ?_) (fun e2 => ?_)
        · refine ⟨_, .inl (SqL.of (sw1 _ _ hp2)), _, ezj, (by show 2 ≤ sizeLine; decide), fun w2 nw2 => ?_⟩
          have sw2 := sw1.trans (same_new (o := .lst [.str ",", .str ";"]) nw2)
          refine ⟨_, .inl (SqL.of upd_same), rfl, rfl, ?_⟩
          have em2 := marks_in (z := zj)
          refine ite2 (fun e3 => ?_) (fun e3 => ?_)
          · exact ⟨g0 + 1, rfl, sw2, by omega, by omega, fun x _ h => absurd h (by omega)⟩
          · have e3 : zj.cps.toList = [44] ∨ zj.cps.toList = [59] := by
              have e3 : ¬ (!inV (.str zj) [.str ",", .str ";"]) = true := e3
              rw [em2, Bool.not_eq_true, Bool.not_eq_false', decide_eq_true_iff] at e3
              exact e3
            refine ⟨g0, rfl, sw2, g1, by omega, fun x hx _ => ?_⟩
            obtain ⟨zj', h1, h2, _⟩ := hlast x hx
            rw [hzj] at h1
            cases h1
            rw [h2]
            exact touch_m1 e3
        · have e2 : zi.cps.toList = [44] ∨ zi.cps.toList = [59] := by
            have e2 : ¬ (!inV (.str zi) [.str ",", .str ";"]) = true := e2
            rw [em, Bool.not_eq_true, Bool.not_eq_false', decide_eq_true_iff] at e2
            exact e2
          exact ⟨g0, rfl, sw1, g1, by omega, fun x _ _ => touch_m2 e2⟩
      · refine ⟨g0, rfl, Same.refl _, g1, by omega, fun x hx _ => ?_⟩
        obtain ⟨_, _, _, h3⟩ := hlast x hx
        exact absurd (decide_eq_true (show (0 : Int) < 0 + i by omega)) e1
    · rintro σ' H3 ⟨g, rfl, s3, g3, g4, hg⟩
      have bt3 := bt2.trans (Bt.same (st := st) s3)
      have hd3 := hd'.new s3
      have hc3 := s3 _ _ hc2
      have hp3 := s3 _ _ hp2
      refine ⟨by omega, by omega, by decide, ?_⟩
      refine ⟨line_of (by rw [l32]; omega), ?_⟩
      have la : (line ++ repS " " g).length = line.length + g.toNat := by rw [len_add, l32]
      have hcl : (cols (1 + ld.toNat) gs).length = i := by rw [cols_len]; exact hgl
      refine ⟨.inl ⟨rfl, _, SqL.of hc3⟩, line_of (by omega), c, _, _, rfl, rfl, hc3, line_lt (by rw [List.length_map, hcl]; omega), ?_⟩
      have bt4 : ∀ (o : HO), Bt st H (upd H3 c o) := fun o b u nb hb => by
        rw [upd_ne (ne_of_none hb c0)]
        exact bt3 b u nb hb
      refine ⟨_, .inl (SqL.of (bt4 _ _ _ hne hp)), _, ezi, ?_⟩
      refine ⟨line_of (by omega), ?_⟩
      refine ⟨_, _, _, gs ++ [(g.toNat, zi.cps.toList)], rfl, bt4 _, hd3.at cs cc, ?_, ?_, apart_snoc hap ?_ (fun x hx e => hg x hx (by omega)), ?_, ?_⟩
      · rw [upd_same, cols_snoc, List.map_append]
        have : colV (1 + ld.toNat + (lay gs []).length + g.toNat) = V.int (((line ++ repS " " g).length : Int) + 1) := by
          have : line.length = ld.toNat + (lay gs []).length := by rw [← len_cps, hline, List.length_append, List.length_replicate]
          show V.int _ = _
          congr 1
          omega
        rw [← this]
        rfl
      · rw [List.map_append, hgs, take_snoc hzi, List.map_append]
        rfl
      · intro e
        have := len_cps zi
        rw [e] at this
        have : zi.length = 0 := this.symm
        omega
      · rw [cps_add, cps_add, hline, e32, lay_snoc, List.append_assoc, List.append_assoc]
      · rw [len_add, la]
        omega
  · rintro σ' H' ⟨line, y, z, gs, rfl, bt, hd, hc, hgs, hap, hline, hll⟩
    refine ⟨st, scr, _, rfl, hd, by decide, many_small (by decide) (by decide), fun r l' r0 r1 hd' => ?_⟩
    refine ⟨by omega, by omega, by decide, ?_⟩
    refine ⟨line_of (by rw [l32]; omega), ?_⟩
    refine ⟨(by show 2 ≤ sizeLine; decide), fun t nt => ?_⟩
    have bt2 := bt.trans (Bt.st (st := st) (o := .lst l'))
    refine q _ t c _ (cols (1 + ld.toNat) gs) (bt2.trans (.same (same_new nt))) (hd'.new (same_new nt)) (bt2.free (hd'.ne_new nt) nt) upd_same cs (same_new nt _ _ (by rw [upd_ne cs]; exact hc)) ⟨ld.toNat, r.toNat, gs, rfl, ?_, hap, ?_, ?_⟩
    · rw [hgs, List.take_length]
    · rw [cps_add, hline, e32, lay_tail (t := List.replicate r.toNat 32), List.append_assoc]
    · rw [len_add, l32]
      omega
end
section
variable {P : Program} {w : World} {K : PySem.W.Frag} {mg : Str → Option Value} {base : Heap}
variable {t_DIGITS t_LETTERS t_LONGEST_NAME : Tok} {a_DEEDS a_MARKS a_RESERVED a_SIGNS a_BadName a_BadPlan a_BadText a_ElseputError a_Plan a_Reader : Addr}
/-! ### where a line does not fit -/
def nm : Sg → Str
  | .deed => "deed"
  | .key => "key"
  | .step => "step"
  | .rows => "rows"
  | .first => "first"
  | .more => "more"
  | .behind => "behind"
  | .last => "last"
  | .fin => "end"
def sgs : List Sg := [.deed, .key, .step, .rows, .first, .more, .behind, .last, .fin]
instance : DecidableEq Sg := fun a b => by
  cases a <;> cases b <;> first | exact .isTrue rfl | exact .isFalse (fun h => nomatch h)
theorem nm_inj : ∀ g h : Sg, nm g = nm h ↔ g = h := fun g h => by
  cases g <;> cases h <;> decide +kernel
theorem nm_ne : ∀ g : Sg, nm g ≠ Str.empty := fun g => by cases g <;> decide +kernel
theorem nm_end : ∀ g : Sg, inV (.str (nm g)) [.str "step", .str "more", .str "end"] = okEnd g := fun g => by cases g <;> decide +kernel
def af0 (_ _ : Str) (_ : List Str) : Str := Str.empty
def af1 (sg z : Str) (ns : List Str) : Str := if (sg = nm .deed) ∧ z ∈ deeds then nm .key else af0 sg z ns
def af2 (sg z : Str) (ns : List Str) : Str := if (sg = nm .key) ∧ z ∈ ns then nm .step else af1 sg z ns
def af3 (sg z : Str) (ns : List Str) : Str := if (sg = nm .step) ∧ z = (",":Str) then nm .deed else af2 sg z ns
def af4 (sg z : Str) (ns : List Str) : Str := if (sg = nm .step) ∧ z = (";":Str) then nm .rows else af3 sg z ns
def af5 (sg z : Str) (ns : List Str) : Str := if (sg = nm .rows) ∧ z = ("lock":Str) then nm .first else af4 sg z ns
def af6 (sg z : Str) (ns : List Str) : Str := if (sg = nm .rows ∨ sg = nm .behind) ∧ z = ("keep":Str) then nm .last else af5 sg z ns
def af7 (sg z : Str) (ns : List Str) : Str := if (sg = nm .first ∨ sg = nm .more) ∧ z ∈ ns then nm .more else af6 sg z ns
def af8 (sg z : Str) (ns : List Str) : Str := if (sg = nm .more) ∧ z = (";":Str) then nm .behind else af7 sg z ns
def af9 (sg z : Str) (ns : List Str) : Str := if (sg = nm .last ∨ sg = nm .fin) ∧ z ∈ ns then nm .fin else af8 sg z ns
theorem lits : ("," : Str) ∉ deeds ∧ (";" : Str) ≠ "," ∧ ("keep" : Str) ≠ "lock" ∧ isName "," = false ∧ isName ";" = false ∧ isName "lock" = false ∧ isName "keep" = false ∧ (∀ d ∈ deeds, isName d = false) := by decide +kernel
theorem af_next {a : Acc} {z : Str} {ns : List Str} (h : isName z = true ↔ z ∈ ns) : af9 (nm a.g) z ns = (match nextT isName a z with
    | some b => nm b.g
    | none => Str.empty) := by
  have l1 := lits.2.1
  have l2 := lits.2.2.1
  have l3 : z = ";" → ¬ z ∈ ns := fun e m => by
    have := h.mpr m
    rw [e, lits.2.2.2.2.1] at this
    cases this
  unfold af9 af8 af7 af6 af5 af4 af3 af2 af1 af0
  simp only [nm_inj, ← h]
  unfold nextT
  cases hg : a.g <;> simp
  · by_cases c : z ∈ deeds <;> simp [c]
  · by_cases c : isName z = true <;> simp [c]
  · by_cases c1 : z = ";"
    · subst c1
      simp [l1]
    · by_cases c2 : z = "," <;> simp [c1, c2, l1.symm]
  · by_cases c1 : z = "keep"
    · subst c1
      simp [l2]
    · by_cases c2 : z = "lock" <;> simp [c1, c2, l2.symm]
  · by_cases c : isName z = true <;> simp [c]
  · by_cases c1 : z = ";"
    · have l4 : isName z ≠ true := fun m => l3 c1 (h.mp m)
      simp [c1]
      rw [c1] at l4
      simp [l4]
    · by_cases c : isName z = true <;> simp [c, c1]
  · by_cases c1 : z = "keep" <;> simp [c1]
  · by_cases c : isName z = true <;> simp [c]
  · by_cases c : isName z = true <;> simp [c]
def sp__law_misfit (K : PySem.W.Frag) : Sp := fun vs H Q _ => ∃ (p n : Addr) (zs ns : List Str), vs = [.ref p, .ref n] ∧ H p = some (.lst (zs.map V.str)) ∧ H n = some (.lst (ns.map V.str)) ∧ (∀ z ∈ zs, isName z = true ↔ z ∈ ns) ∧ zs.length ≤ 100 ∧
  (∀ i, Stuck isName zs i → ∀ H', Same H H' → Q (.int (i : Int)) H') ∧ (∀ c, goT isName zs zs.length = some c → okEnd c.g = true → ∀ H', Same H H' → Q (.int (-1)) H')
theorem len__law_misfit {vs : List V} {H : Hp} {Q : VK} {E : XK} (h : sp__law_misfit K vs H Q E) : vs.length = 2 := by
  obtain ⟨_, _, _, _, rfl, _⟩ := h
  rfl
theorem ok__law_misfit {f : Addr} {fd : FuncData} (F : Fun K "_law_misfit" "_law_misfit" s__law_misfit f fd) (T : Gs K mg t_DIGITS t_LETTERS t_LONGEST_NAME a_DEEDS a_MARKS a_RESERVED a_SIGNS a_BadName a_BadPlan a_BadText a_ElseputError a_Plan a_Reader) : FnOk P w K mg base CX0 1 f fd ["_law_parts_here", "_law_names_here"] (sp__law_misfit K) := by
  refine F.ok sc__law_misfit (fun vs H Q E h => len__law_misfit h) (fun cdv A outer s H vs Q E hr h => ?_)
  obtain ⟨p, n, zs, ns, rfl, hp, hn, hin, few, q1, q2⟩ := h
  refine ⟨_, (pss_cons (ps_set (i := 2) sc__law_misfit.nd rfl (.inl rfl) pe_str) (pss_cons (ps_for PassesOwn.never rfl (pi_range1 rfl T.z_range (pa_cons (pe_callB (lenK K) (by rfl) T.z_len PySem.boot_len (pa_cons (v_ 0) pa_nil)) pa_nil)) (pg_name (i := 3) sc__law_misfit.nd rfl (.inl rfl)) (pss_cons (ps_set (i := 4) sc__law_misfit.nd rfl (.inl rfl) (e_x K (v_ 0) (v_ 3))) (pss_cons (ps_set (i := 5) sc__law_misfit.nd rfl (.inl rfl) pe_str) (Evl.pss_cut (ps_if (PW.pt (pw_and (pt_c (eqK K hr.units) (v_ 2) pe_str) (pw_and1 (pt_c (inK K) (v_ 4) (pe_lst (pa_cons pe_str (pa_cons pe_str (pa_cons pe_str pa_nil)))))))) (pss_one (ps_set (i := 5) sc__law_misfit.nd rfl (.inl rfl) pe_str)) pss_nil) (Evl.pss_cut (ps_if (PW.pt (pw_and (pt_c (eqK K hr.units) (v_ 2) pe_str) (pw_and1 (pt_c (inK K) (v_ 4) (v_ 1))))) (pss_one (ps_set (i := 5) sc__law_misfit.nd rfl (.inl rfl) pe_str)) pss_nil) (Evl.pss_cut (ps_if (PW.pt (pw_and (pt_c (eqK K hr.units) (v_ 2) pe_str) (pw_and1 (pt_c (eqK K hr.units) (v_ 4) pe_str)))) (pss_one (ps_set (i := 5) sc__law_misfit.nd rfl (.inl rfl) pe_str)) pss_nil) (Evl.pss_cut (ps_if (PW.pt (pw_and (pt_c (eqK K hr.units) (v_ 2) pe_str) (pw_and1 (pt_c (eqK K hr.units) (v_ 4) pe_str)))) (pss_one (ps_set (i := 5) sc__law_misfit.nd rfl (.inl rfl) pe_str)) pss_nil) (Evl.pss_cut (ps_if (PW.pt (pw_and (pt_c (eqK K hr.units) (v_ 2) pe_str) (pw_and1 (pt_c (eqK K hr.units) (v_ 4) pe_str)))) (pss_one (ps_set (i := 5) sc__law_misfit.nd rfl (.inl rfl) pe_str)) pss_nil) (Evl.pss_cut (ps_if (PW.pt (pw_and (PW.pt (pw_or (pt_c (eqK K hr.units) (v_ 2) pe_str) (pw_or1 (pt_c (eqK K hr.units) (v_ 2) pe_str)))) (pw_and1 (pt_c (eqK K hr.units) (v_ 4) pe_str)))) (pss_one (ps_set (i := 5) sc__law_misfit.nd rfl (.inl rfl) pe_str)) pss_nil) (Evl.pss_cut (ps_if (PW.pt (pw_and (PW.pt (pw_or (pt_c (eqK K hr.units) (v_ 2) pe_str) (pw_or1 (pt_c (eqK K hr.units) (v_ 2) pe_str)))) (pw_and1 (pt_c (inK K) (v_ 4) (v_ 1))))) (pss_one (ps_set (i := 5) sc__law_misfit.nd rfl (.inl rfl) pe_str)) pss_nil) (Evl.pss_cut (ps_if (PW.pt (pw_and (pt_c (eqK K hr.units) (v_ 2) pe_str) (pw_and1 (pt_c (eqK K hr.units) (v_ 4) pe_str)))) (pss_one (ps_set (i := 5) sc__law_misfit.nd rfl (.inl rfl) pe_str)) pss_nil) (Evl.pss_cut (ps_if (PW.pt (pw_and (PW.pt (pw_or (pt_c (eqK K hr.units) (v_ 2) pe_str) (pw_or1 (pt_c (eqK K hr.units) (v_ 2) pe_str)))) (pw_and1 (pt_c (inK K) (v_ 4) (v_ 1))))) (pss_one (ps_set (i := 5) sc__law_misfit.nd rfl (.inl rfl) pe_str)) pss_nil) (pss_cons (ps_if (pt_c (eqK K hr.units) (v_ 5) pe_str) (pss_one (ps_ret (v_ 3))) pss_nil) (pss_one (ps_set (i := 2) sc__law_misfit.nd rfl (.inl rfl) (v_ 5)))))))))))))))) (pss_cons (ps_if (pt_c (inK K) (v_ 2) (pe_lst (pa_cons pe_str (pa_cons pe_str (pa_cons pe_str pa_nil))))) (pss_one (ps_ret (pe_un un_negM pe_int))) pss_nil) (pss_one (ps_ret (pe_callB (lenK K) (by rfl) T.z_len PySem.boot_len (pa_cons (v_ 0) pa_nil))))))), ?_⟩
  refine .inl ⟨_, .inl (SqL.of hp), _, rfl, by omega, by rw [List.length_map]; omega, ?_⟩
  rw [List.length_map]
  refine for_range (lo := 0) (n := zs.length) (fun i σ' H' => ∃ (a : Acc) (y z w : Option V), σ' = [some (.ref p), some (.ref n), some (.str (nm a.g)), y, z, w] ∧ Same H H' ∧ goT isName zs i = some a) ⟨⟨.deed, Str.empty, [], [], []⟩, _, _, _, rfl, Same.refl _, rfl⟩ ?_ ?_
  · rintro i σ' H1 hi ⟨a, y, x, w, rfl, sm, ga⟩
    obtain ⟨z, hzi⟩ : ∃ z, zs[i]? = some z := ⟨zs[i], List.getElem?_eq_getElem hi⟩
    have ezi : atI (zs.map V.str) (0 + (i : Int)) = some (.str z) := by rw [Int.zero_add]; exact atI_nat (by rw [List.getElem?_map, hzi]; rfl)
    have an := af_next (a := a) (hin z (List.mem_of_getElem? hzi))
    have hp1 := sm _ _ hp
    refine ⟨_, .inl (SqL.of hp1), _, ezi, ?_⟩
    generalize hsg : nm a.g = sg at an ⊢
    refine ⟨fun σ' H' => σ' = [some (.ref p), some (.ref n), some (.str sg), some (.int (0 + i)), some (.str z), some (.str (af1 sg z ns))] ∧ Same H H', ?_, ?_⟩
    · refine ite2 (fun a1 => ?_) (fun a1 => ?_)
      · have a1 : sg = nm .deed := of_decide_eq_true a1
        refine ⟨(by show 3 ≤ sizeLine; decide), fun w1 nw1 => ?_⟩
        have sw := sm.trans (same_new (o := .lst [.str "take", .str "look", .str "free"]) nw1)
        refine ⟨_, .inl (SqL.of upd_same), rfl, rfl, ?_⟩
        refine ite2 (fun b => ?_) (fun b => ?_)
        · have b : z ∈ deeds := of_decide_eq_true (inV_deeds.symm.trans b)
          refine ⟨?_, sw⟩
          unfold af1
          rw [if_pos ⟨a1, b⟩]
          rfl
        · have b : ¬ z ∈ deeds := fun h => b (inV_deeds.trans (decide_eq_true h))
          refine ⟨?_, sw⟩
          unfold af1
          rw [if_neg (fun h => b h.2)]
          rfl
      · have a1 : ¬ sg = nm .deed := fun h => a1 (decide_eq_true h)
        refine ⟨?_, sm⟩
        unfold af1
        rw [if_neg (fun h => a1 h.1)]
        rfl
    clear sm hp1
    rintro σ' H1 ⟨rfl, sm⟩
    have hp1 := sm _ _ hp
    refine ⟨fun σ' H' => σ' = [some (.ref p), some (.ref n), some (.str sg), some (.int (0 + i)), some (.str z), some (.str (af2 sg z ns))] ∧ Same H H', ?_, ?_⟩
    · refine ite2 (fun a1 => ?_) (fun a1 => ?_)
      · have a1 : sg = nm .key := of_decide_eq_true a1
        refine ⟨_, .inl (SqL.of (sm _ _ hn)), rfl, flat_strs, ?_⟩
        refine ite2 (fun b => ?_) (fun b => ?_)
        · have b : z ∈ ns := of_decide_eq_true (inV_str.symm.trans b)
          refine ⟨?_, sm⟩
          unfold af2
          rw [if_pos ⟨a1, b⟩]
          rfl
        · have b : ¬ z ∈ ns := fun h => b (inV_str.trans (decide_eq_true h))
          refine ⟨?_, sm⟩
          unfold af2
          rw [if_neg (fun h => b h.2)]
      · have a1 : ¬ sg = nm .key := fun h => a1 (decide_eq_true h)
        refine ⟨?_, sm⟩
        unfold af2
        rw [if_neg (fun h => a1 h.1)]
    clear sm hp1
    rintro σ' H1 ⟨rfl, sm⟩
    have hp1 := sm _ _ hp
    refine ⟨fun σ' H' => σ' = [some (.ref p), some (.ref n), some (.str sg), some (.int (0 + i)), some (.str z), some (.str (af3 sg z ns))] ∧ Same H H', ?_, ?_⟩
    · refine ite2 (fun a1 => ?_) (fun a1 => ?_)
      · have a1 : sg = nm .step := of_decide_eq_true a1
        refine ite2 (fun b => ?_) (fun b => ?_)
        · have b : z = (",":Str) := of_decide_eq_true (b)
          refine ⟨?_, sm⟩
          unfold af3
          rw [if_pos ⟨a1, b⟩]
          rfl
        · have b : ¬ z = (",":Str) := fun h => b (decide_eq_true h)
          refine ⟨?_, sm⟩
          unfold af3
          rw [if_neg (fun h => b h.2)]
      · have a1 : ¬ sg = nm .step := fun h => a1 (decide_eq_true h)
        refine ⟨?_, sm⟩
        unfold af3
        rw [if_neg (fun h => a1 h.1)]
    clear sm hp1
    rintro σ' H1 ⟨rfl, sm⟩
    have hp1 := sm _ _ hp
    refine ⟨fun σ' H' => σ' = [some (.ref p), some (.ref n), some (.str sg), some (.int (0 + i)), some (.str z), some (.str (af4 sg z ns))] ∧ Same H H', ?_, ?_⟩
    · refine ite2 (fun a1 => ?_) (fun a1 => ?_)
      · have a1 : sg = nm .step := of_decide_eq_true a1
        refine ite2 (fun b => ?_) (fun b => ?_)
        · have b : z = (";":Str) := of_decide_eq_true (b)
          refine ⟨?_, sm⟩
          unfold af4
          rw [if_pos ⟨a1, b⟩]
          rfl
        · have b : ¬ z = (";":Str) := fun h => b (decide_eq_true h)
          refine ⟨?_, sm⟩
          unfold af4
          rw [if_neg (fun h => b h.2)]
      · have a1 : ¬ sg = nm .step := fun h => a1 (decide_eq_true h)
        refine ⟨?_, sm⟩
        unfold af4
        rw [if_neg (fun h => a1 h.1)]
    clear sm hp1
    rintro σ' H1 ⟨rfl, sm⟩
    have hp1 := sm _ _ hp
    refine ⟨fun σ' H' => σ' = [some (.ref p), some (.ref n), some (.str sg), some (.int (0 + i)), some (.str z), some (.str (af5 sg z ns))] ∧ Same H H', ?_, ?_⟩
    · refine ite2 (fun a1 => ?_) (fun a1 => ?_)
      · have a1 : sg = nm .rows := of_decide_eq_true a1
        refine ite2 (fun b => ?_) (fun b => ?_)
        · have b : z = ("lock":Str) := of_decide_eq_true (b)
          refine ⟨?_, sm⟩
          unfold af5
          rw [if_pos ⟨a1, b⟩]
          rfl
        · have b : ¬ z = ("lock":Str) := fun h => b (decide_eq_true h)
          refine ⟨?_, sm⟩
          unfold af5
          rw [if_neg (fun h => b h.2)]
      · have a1 : ¬ sg = nm .rows := fun h => a1 (decide_eq_true h)
        refine ⟨?_, sm⟩
        unfold af5
        rw [if_neg (fun h => a1 h.1)]
    clear sm hp1
    rintro σ' H1 ⟨rfl, sm⟩
    have hp1 := sm _ _ hp
    refine ⟨fun σ' H' => σ' = [some (.ref p), some (.ref n), some (.str sg), some (.int (0 + i)), some (.str z), some (.str (af6 sg z ns))] ∧ Same H H', ?_, ?_⟩
    · refine ite2 (fun a1 => ?_) (fun a1 => ?_)
      · have a1 : sg = nm .rows := of_decide_eq_true a1
        refine ite2 (fun _ => ?_) (fun h => absurd rfl h)
        refine ite2 (fun b => ?_) (fun b => ?_)
        · have b : z = ("keep":Str) := of_decide_eq_true (b)
          refine ⟨?_, sm⟩
          unfold af6
          rw [if_pos ⟨.inl a1, b⟩]
          rfl
        · have b : ¬ z = ("keep":Str) := fun h => b (decide_eq_true h)
          refine ⟨?_, sm⟩
          unfold af6
          rw [if_neg (fun h => b h.2)]
      · have a1 : ¬ sg = nm .rows := fun h => a1 (decide_eq_true h)
        refine ite2 (fun a2 => ?_) (fun a2 => ?_)
        · have a2 : sg = nm .behind := of_decide_eq_true a2
          refine ite2 (fun b => ?_) (fun b => ?_)
          · have b : z = ("keep":Str) := of_decide_eq_true (b)
            refine ⟨?_, sm⟩
            unfold af6
            rw [if_pos ⟨.inr a2, b⟩]
            rfl
          · have b : ¬ z = ("keep":Str) := fun h => b (decide_eq_true h)
            refine ⟨?_, sm⟩
            unfold af6
            rw [if_neg (fun h => b h.2)]
        · have a2 : ¬ sg = nm .behind := fun h => a2 (decide_eq_true h)
          refine ⟨?_, sm⟩
          unfold af6
          rw [if_neg (fun h => h.1.elim a1 a2)]
    clear sm hp1
    rintro σ' H1 ⟨rfl, sm⟩
    have hp1 := sm _ _ hp
    refine ⟨fun σ' H' => σ' = [some (.ref p), some (.ref n), some (.str sg), some (.int (0 + i)), some (.str z), some (.str (af7 sg z ns))] ∧ Same H H', ?_, ?_⟩
    · refine ite2 (fun a1 => ?_) (fun a1 => ?_)
      · have a1 : sg = nm .first := of_decide_eq_true a1
        refine ite2 (fun _ => ?_) (fun h => absurd rfl h)
        refine ⟨_, .inl (SqL.of (sm _ _ hn)), rfl, flat_strs, ?_⟩
        refine ite2 (fun b => ?_) (fun b => ?_)
        · have b : z ∈ ns := of_decide_eq_true (inV_str.symm.trans b)
          refine ⟨?_, sm⟩
          unfold af7
          rw [if_pos ⟨.inl a1, b⟩]
          rfl
        · have b : ¬ z ∈ ns := fun h => b (inV_str.trans (decide_eq_true h))
          refine ⟨?_, sm⟩
          unfold af7
          rw [if_neg (fun h => b h.2)]
      · have a1 : ¬ sg = nm .first := fun h => a1 (decide_eq_true h)
        refine ite2 (fun a2 => ?_) (fun a2 => ?_)
        · have a2 : sg = nm .more := of_decide_eq_true a2
          refine ⟨_, .inl (SqL.of (sm _ _ hn)), rfl, flat_strs, ?_⟩
          refine ite2 (fun b => ?_) (fun b => ?_)
          · have b : z ∈ ns := of_decide_eq_true (inV_str.symm.trans b)
            refine ⟨?_, sm⟩
            unfold af7
            rw [if_pos ⟨.inr a2, b⟩]
            rfl
          · have b : ¬ z ∈ ns := fun h => b (inV_str.trans (decide_eq_true h))
            refine ⟨?_, sm⟩
            unfold af7
            rw [if_neg (fun h => b h.2)]
        · have a2 : ¬ sg = nm .more := fun h => a2 (decide_eq_true h)
          refine ⟨?_, sm⟩
          unfold af7
          rw [if_neg (fun h => h.1.elim a1 a2)]
    clear sm hp1
    rintro σ' H1 ⟨rfl, sm⟩
    have hp1 := sm _ _ hp
    refine ⟨fun σ' H' => σ' = [some (.ref p), some (.ref n), some (.str sg), some (.int (0 + i)), some (.str z), some (.str (af8 sg z ns))] ∧ Same H H', ?_, ?_⟩
    · refine ite2 (fun a1 => ?_) (fun a1 => ?_)
      · have a1 : sg = nm .more := of_decide_eq_true a1
        refine ite2 (fun b => ?_) (fun b => ?_)
        · have b : z = (";":Str) := of_decide_eq_true (b)
          refine ⟨?_, sm⟩
          unfold af8
          rw [if_pos ⟨a1, b⟩]
          rfl
        · have b : ¬ z = (";":Str) := fun h => b (decide_eq_true h)
          refine ⟨?_, sm⟩
          unfold af8
          rw [if_neg (fun h => b h.2)]
      · have a1 : ¬ sg = nm .more := fun h => a1 (decide_eq_true h)
        refine ⟨?_, sm⟩
        unfold af8
        rw [if_neg (fun h => a1 h.1)]
    clear sm hp1
    rintro σ' H1 ⟨rfl, sm⟩
    have hp1 := sm _ _ hp
    refine ⟨fun σ' H' => σ' = [some (.ref p), some (.ref n), some (.str sg), some (.int (0 + i)), some (.str z), some (.str (af9 sg z ns))] ∧ Same H H', ?_, ?_⟩
    · refine ite2 (fun a1 => ?_) (fun a1 => ?_)
      · have a1 : sg = nm .last := of_decide_eq_true a1
        refine ite2 (fun _ => ?_) (fun h => absurd rfl h)
        refine ⟨_, .inl (SqL.of (sm _ _ hn)), rfl, flat_strs, ?_⟩
        refine ite2 (fun b => ?_) (fun b => ?_)
        · have b : z ∈ ns := of_decide_eq_true (inV_str.symm.trans b)
          refine ⟨?_, sm⟩
          unfold af9
          rw [if_pos ⟨.inl a1, b⟩]
          rfl
        · have b : ¬ z ∈ ns := fun h => b (inV_str.trans (decide_eq_true h))
          refine ⟨?_, sm⟩
          unfold af9
          rw [if_neg (fun h => b h.2)]
      · have a1 : ¬ sg = nm .last := fun h => a1 (decide_eq_true h)
        refine ite2 (fun a2 => ?_) (fun a2 => ?_)
        · have a2 : sg = nm .fin := of_decide_eq_true a2
          refine ⟨_, .inl (SqL.of (sm _ _ hn)), rfl, flat_strs, ?_⟩
          refine ite2 (fun b => ?_) (fun b => ?_)
          · have b : z ∈ ns := of_decide_eq_true (inV_str.symm.trans b)
            refine ⟨?_, sm⟩
            unfold af9
            rw [if_pos ⟨.inr a2, b⟩]
            rfl
          · have b : ¬ z ∈ ns := fun h => b (inV_str.trans (decide_eq_true h))
            refine ⟨?_, sm⟩
            unfold af9
            rw [if_neg (fun h => b h.2)]
        · have a2 : ¬ sg = nm .fin := fun h => a2 (decide_eq_true h)
          refine ⟨?_, sm⟩
          unfold af9
          rw [if_neg (fun h => h.1.elim a1 a2)]
    clear sm hp1
    rintro σ' H1 ⟨rfl, sm⟩
    have hp1 := sm _ _ hp
    rw [an]
    cases hx : nextT isName a z with
    | none =>
      have y := q1 i ⟨a, ga, .inr ⟨z, hzi, hx⟩⟩ _ sm
      rw [show (i : Int) = 0 + (i : Int) by omega] at y
      exact y
    | some b =>
      refine ite2 (fun c => ?_) (fun c => ?_)
      · exact absurd (of_decide_eq_true c) (nm_ne b.g)
      · exact ⟨b, _, _, _, rfl, sm, by rw [go_next ga hzi]; exact hx⟩
  rintro σ' H1 ⟨a, y, x, w, rfl, sm, ga⟩
  refine ⟨(by show 3 ≤ sizeLine; decide), fun w1 nw1 => ?_⟩
  have sw := sm.trans (same_new (o := .lst [.str "step", .str "more", .str "end"]) nw1)
  refine ⟨_, .inl (SqL.of upd_same), rfl, rfl, ?_⟩
  refine ite2 (fun c => ?_) (fun c => ?_)
  · exact q2 a ga ((nm_end a.g).symm.trans c) _ sw
  · refine .inl ⟨_, .inl (SqL.of (sw _ _ hp)), ?_⟩
    rw [List.length_map]
    exact q1 _ ⟨a, ga, .inl ⟨rfl, (nm_end a.g).symm.trans (Bool.eq_false_iff.mpr c)⟩⟩ _ sw
end
section
variable {P : Program} {w : World} {K : PySem.W.Frag} {mg : Str → Option Value} {base : Heap}
variable {t_DIGITS t_LETTERS t_LONGEST_NAME : Tok} {a_DEEDS a_MARKS a_RESERVED a_SIGNS a_BadName a_BadPlan a_BadText a_ElseputError a_Plan a_Reader : Addr}
/-! ### the rows of a line that fits -/
def stg : Sg → Str
  | .first => "lock"
  | .more => "lock"
  | .behind => "lock"
  | .last => "keep"
  | .fin => "keep"
  | _ => Str.empty
def psI (zs : List Str) (a : Acc) (i : Nat) : List Stp := if a.g = .key then a.ps ++ [(a.d, (zs[i]?).getD Str.empty)] else a.ps
inductive Nx (a : Acc) (z : Str) : Acc → Prop where
  | deed (h : a.g = .deed) (e : z ∈ deeds) : Nx a z ⟨.key, z, a.ps, a.l, a.k⟩
  | key (h : a.g = .key) (e : isName z = true) : Nx a z ⟨.step, a.d, a.ps ++ [(a.d, z)], a.l, a.k⟩
  | comma (h : a.g = .step) (e : z = ",") : Nx a z ⟨.deed, a.d, a.ps, a.l, a.k⟩
  | semi (h : a.g = .step) (e : z = ";") : Nx a z ⟨.rows, a.d, a.ps, a.l, a.k⟩
  | lock (h : a.g = .rows) (e : z = "lock") : Nx a z ⟨.first, a.d, a.ps, a.l, a.k⟩
  | keep (h : a.g = .rows ∨ a.g = .behind) (e : z = "keep") : Nx a z ⟨.last, a.d, a.ps, a.l, a.k⟩
  | more (h : a.g = .first ∨ a.g = .more) (e : isName z = true) : Nx a z ⟨.more, a.d, a.ps, a.l ++ [z], a.k⟩
  | end_ (h : a.g = .more) (e : z = ";") : Nx a z ⟨.behind, a.d, a.ps, a.l, a.k⟩
  | fin (h : a.g = .last ∨ a.g = .fin) (e : isName z = true) : Nx a z ⟨.fin, a.d, a.ps, a.l, a.k ++ [z]⟩
theorem nx_of {a b : Acc} {z : Str} (h : nextT isName a z = some b) : Nx a z b := by
  cases hg : a.g with
  | deed =>
    rw [nx_deed hg] at h
    split at h <;> cases h
    exact .deed hg (by assumption)
  | key =>
    rw [nx_key hg] at h
    split at h <;> cases h
    exact .key hg (by assumption)
  | step =>
    rw [nx_step hg] at h
    split at h
    · cases h
      exact .comma hg (by assumption)
    · split at h <;> cases h
      exact .semi hg (by assumption)
  | rows =>
    rw [nx_rows hg] at h
    split at h
    · cases h
      exact .lock hg (by assumption)
    · split at h <;> cases h
      exact .keep (.inl hg) (by assumption)
  | first =>
    rw [nx_first hg] at h
    split at h <;> cases h
    exact .more (.inl hg) (by assumption)
  | more =>
    rw [nx_more hg] at h
    split at h
    · cases h
      exact .more (.inr hg) (by assumption)
    · split at h <;> cases h
      exact .end_ hg (by assumption)
  | behind =>
    rw [nx_behind hg] at h
    split at h <;> cases h
    exact .keep (.inr hg) (by assumption)
  | last =>
    rw [nx_last (.inl hg)] at h
    split at h <;> cases h
    exact .fin (.inl hg) (by assumption)
  | fin =>
    rw [nx_last (.inr hg)] at h
    split at h <;> cases h
    exact .fin (.inr hg) (by assumption)
theorem name_not {z : Str} (h : isName z = true) : z ∉ deeds ∧ z ≠ "lock" ∧ z ≠ "keep" ∧ z ≠ ";" := by
  obtain ⟨_, _, _, _, l5, l6, l7, l8⟩ := lits
  refine ⟨fun m => ?_, fun e => ?_, fun e => ?_, fun e => ?_⟩
  · rw [l8 z m] at h; cases h
  · rw [e, l6] at h; cases h
  · rw [e, l7] at h; cases h
  · rw [e, l5] at h; cases h
theorem lits2 : ("lock" : Str) ∉ deeds ∧ ("keep" : Str) ∉ deeds ∧ (";" : Str) ∉ deeds ∧ ("," : Str) ≠ "lock" ∧ ("," : Str) ≠ "keep" ∧ (";" : Str) ≠ "lock" ∧ (";" : Str) ≠ "keep" ∧ ("," : Str) ≠ ";" ∧ Str.empty ≠ "lock" ∧ Str.empty ≠ "keep" ∧ ("lock" : Str) ≠ "keep" := by decide +kernel
theorem lk_in {z : Str} : inV (.str z) [.str "lock", .str "keep"] = decide (z ∈ (["lock", "keep"] : List Str)) := inV_str (xs := ["lock", "keep"])
def sp__law_plan_of (K : PySem.W.Frag) : Sp := fun vs H Q _ => ∃ (p : Addr) (zs : List Str) (c : Acc), vs = [.ref p] ∧ H p = some (.lst (zs.map V.str)) ∧ zs.length ≤ 100 ∧ goT isName zs zs.length = some c ∧ okEnd c.g = true ∧
  ∀ (H' : Hp) (t R L M : Addr), Same H H' → H' t = some (.tup [.ref R, .ref L, .ref M]) → (∃ us, H' R = some (.lst us) ∧ PairsIn K H' us c.ps) → H' L = some (.lst (c.l.map V.str)) → H' M = some (.lst (c.k.map V.str)) → Q (.ref t) H'
theorem len__law_plan_of {vs : List V} {H : Hp} {Q : VK} {E : XK} (h : sp__law_plan_of K vs H Q E) : vs.length = 1 := by
  obtain ⟨_, _, _, rfl, _⟩ := h
  rfl
theorem ok__law_plan_of {f : Addr} {fd : FuncData} (F : Fun K "_law_plan_of" "_law_plan_of" s__law_plan_of f fd) (T : Gs K mg t_DIGITS t_LETTERS t_LONGEST_NAME a_DEEDS a_MARKS a_RESERVED a_SIGNS a_BadName a_BadPlan a_BadText a_ElseputError a_Plan a_Reader) : FnOk P w K mg base CX0 1 f fd ["_law_parts_here"] (sp__law_plan_of K) := by
  refine F.ok sc__law_plan_of (fun vs H Q E h => len__law_plan_of h) (fun cdv A outer s H vs Q E hr h => ?_)
  obtain ⟨p, zs, c, rfl, hp, few, gc, oc, q⟩ := h
  refine ⟨_, (pss_cons (ps_set (i := 1) sc__law_plan_of.nd rfl (.inl rfl) (pe_lst pa_nil)) (pss_cons (ps_set (i := 2) sc__law_plan_of.nd rfl (.inl rfl) (pe_lst pa_nil)) (pss_cons (ps_set (i := 3) sc__law_plan_of.nd rfl (.inl rfl) (pe_lst pa_nil)) (pss_cons (ps_set (i := 4) sc__law_plan_of.nd rfl (.inl rfl) pe_str) (pss_cons (ps_for PassesOwn.never rfl (pi_range1 rfl T.z_range (pa_cons (pe_callB (lenK K) (by rfl) T.z_len PySem.boot_len (pa_cons (v_ 0) pa_nil)) pa_nil)) (pg_name (i := 5) sc__law_plan_of.nd rfl (.inl rfl)) (pss_one (ps_if (pt_c (inK K) (e_x K (v_ 0) (v_ 5)) (pe_lst (pa_cons pe_str (pa_cons pe_str (pa_cons pe_str pa_nil))))) (pss_one (ps_expr (pe_bm PySem.F.plainAttrs_list PySem.F.slot_list_append PySem.F.type_list_append mt_append (v_ 1) (pa_cons (pe_tup (pa_cons (e_x K (v_ 0) (v_ 5)) (pa_cons (e_x K (v_ 0) (pe_op (addK K) (v_ 5) pe_int)) pa_nil))) pa_nil)))) (pss_one (ps_if (pt_c (inK K) (e_x K (v_ 0) (v_ 5)) (pe_lst (pa_cons pe_str (pa_cons pe_str pa_nil)))) (pss_one (ps_set (i := 4) sc__law_plan_of.nd rfl (.inl rfl) (e_x K (v_ 0) (v_ 5)))) (pss_one (ps_if (PW.pt (pw_and (pt_c (eqK K hr.units) (v_ 4) pe_str) (pw_and1 (pt_c (neK K hr.units) (e_x K (v_ 0) (v_ 5)) pe_str)))) (pss_one (ps_expr (pe_bm PySem.F.plainAttrs_list PySem.F.slot_list_append PySem.F.type_list_append mt_append (v_ 2) (pa_cons (e_x K (v_ 0) (v_ 5)) pa_nil)))) (pss_one (ps_if (pt_c (eqK K hr.units) (v_ 4) pe_str) (pss_one (ps_expr (pe_bm PySem.F.plainAttrs_list PySem.F.slot_list_append PySem.F.type_list_append mt_append (v_ 3) (pa_cons (e_x K (v_ 0) (v_ 5)) pa_nil)))) pss_nil))))))))) (pss_one (ps_ret (pe_tup (pa_cons (v_ 1) (pa_cons (v_ 2) (pa_cons (v_ 3) pa_nil))))))))))), ?_⟩
  refine ⟨Nat.zero_le _, fun R nR => ⟨Nat.zero_le _, fun L nL => ⟨Nat.zero_le _, fun M nM => ?_⟩⟩⟩
  have LR : L ≠ R := new_ne nL
  have nL0 := free_new nL
  have ML : M ≠ L := new_ne nM
  have MR : M ≠ R := new_ne (free_new nM)
  have nM0 := free_new (free_new nM)
  have sm0 := ((same_new (o := .lst []) nR).trans (same_new (o := .lst []) nL)).trans (same_new (o := .lst []) nM)
  have eR : (upd (upd (upd H R (.lst [])) L (.lst [])) M (.lst [])) R = some (.lst []) := by rw [upd_ne MR.symm, upd_ne LR.symm, upd_same]
  have eL : (upd (upd (upd H R (.lst [])) L (.lst [])) M (.lst [])) L = some (.lst []) := by rw [upd_ne ML.symm, upd_same]
  have eM : (upd (upd (upd H R (.lst [])) L (.lst [])) M (.lst [])) M = some (.lst []) := upd_same
  generalize upd (upd (upd H R (.lst [])) L (.lst [])) M (.lst []) = H1 at sm0 eR eL eM ⊢
  refine .inl ⟨_, .inl (SqL.of (sm0 _ _ hp)), _, rfl, by omega, by rw [List.length_map]; omega, ?_⟩
  rw [List.length_map]
  refine for_range (lo := 0) (n := zs.length) (fun i σ' H' => ∃ (a : Acc) (us : List V) (y : Option V), σ' = [some (.ref p), some (.ref R), some (.ref L), some (.ref M), some (.str (stg a.g)), y] ∧ Same H H' ∧ goT isName zs i = some a ∧ H' R = some (.lst us) ∧ PairsIn K H' us (psI zs a i) ∧ H' L = some (.lst (a.l.map V.str)) ∧ H' M = some (.lst (a.k.map V.str))) ⟨⟨.deed, Str.empty, [], [], []⟩, [], _, rfl, sm0, rfl, eR, .nil, eL, eM⟩ ?_ ?_
  · rintro i σ' H2 hi ⟨a, us, y, rfl, sm, ga, eR, hus, eL, eM⟩
    obtain ⟨z, hzi⟩ : ∃ z, zs[i]? = some z := ⟨zs[i], List.getElem?_eq_getElem hi⟩
    have ezi : atI (zs.map V.str) (0 + (i : Int)) = some (.str z) := by rw [Int.zero_add]; exact atI_nat (by rw [List.getElem?_map, hzi]; rfl)
    obtain ⟨b, gb⟩ := go_back gc (i := i + 1) (by omega)
    have hx := nx_of (by rw [← go_next ga hzi]; exact gb)
    obtain ⟨_, _, _, _, ab⟩ := go_ok ga
    have ul := pairs_len hus
    have pl : (psI zs a i).length ≤ a.ps.length + 1 := by
      unfold psI
      split
      · rw [List.length_append]; exact Nat.le_refl _
      · omega
    have hp2 := sm _ _ hp
    refine ⟨_, .inl (SqL.of hp2), _, ezi, (by show 3 ≤ sizeLine; decide), fun w1 nw1 => ?_⟩
    have sw := same_new (o := .lst [.str "take", .str "look", .str "free"]) nw1
    have s3 := sm.trans sw
    have eR3 := sw _ _ eR
    have hus3 := pairs_same hus sw
    have eL3 := sw _ _ eL
    have eM3 := sw _ _ eM
    have ew : (upd H2 w1 (.lst [.str "take", .str "look", .str "free"])) w1 = some (.lst [.str "take", .str "look", .str "free"]) := upd_same
    generalize upd H2 w1 (.lst [.str "take", .str "look", .str "free"]) = H3 at s3 eR3 hus3 eL3 eM3 ew ⊢
    clear sw eR hus eL eM nw1 hp2
    refine ⟨_, .inl (SqL.of ew), rfl, rfl, ?_⟩
    have hp3 := s3 _ _ hp
    by_cases hd : z ∈ deeds
    · refine ite2 (fun _ => ?_) (fun h => absurd (inV_deeds.trans (decide_eq_true hd)) h)
      cases hx with
      | key h e => exact absurd hd (name_not e).1
      | comma h e => exact absurd (e ▸ hd) lits.1
      | semi h e => exact absurd (e ▸ hd) lits2.2.2.1
      | lock h e => exact absurd (e ▸ hd) lits2.1
      | keep h e => exact absurd (e ▸ hd) lits2.2.1
      | more h e => exact absurd hd (name_not e).1
      | end_ h e => exact absurd (e ▸ hd) lits2.2.2.1
      | fin h e => exact absurd hd (name_not e).1
      | deed h e =>
        have lt : i + 1 < zs.length := by
          by_cases c2 : i + 1 < zs.length
          · exact c2
          · exfalso
            have : i + 1 = zs.length := by omega
            rw [this, gc] at gb
            cases gb
            cases oc
        obtain ⟨z2, hz2⟩ : ∃ z, zs[i + 1]? = some z := ⟨_, List.getElem?_eq_getElem lt⟩
        have ez2 : atI (zs.map V.str) (0 + (i : Int) + 1) = some (.str z2) := by
          rw [show (0 : Int) + (i : Int) + 1 = ((i + 1 : Nat) : Int) by omega]
          exact atI_nat (by rw [List.getElem?_map, hz2]; rfl)
        refine ⟨.inl ⟨rfl, _, SqL.of eR3⟩, _, .inl (SqL.of hp3), _, ezi, _, .inl (SqL.of hp3), _, ez2, (by show 2 ≤ sizeLine; decide), fun T nT => ⟨R, us, .ref T, rfl, rfl, same_new nT _ _ eR3, line_lt (by omega), ?_⟩⟩
        have sT := same_new (o := .tup [.str z, .str z2]) nT
        have nt := NT.lst (H := upd H3 T (.tup [.str z, .str z2])) (st := R) ⟨_, sT _ _ eR3⟩
        refine ⟨_, us ++ [.ref T], some (.int (0 + (i : Int))), ?_, fun b o hb => by rw [upd_ne (ne_of_none hb nR)]; exact sT _ _ (s3 _ _ hb), gb, upd_same, ?_, by rw [upd_ne LR]; exact sT _ _ eL3, by rw [upd_ne MR]; exact sT _ _ eM3⟩
        · rw [h]
          rfl
        · have e1 : psI zs a i = a.ps := by unfold psI; rw [h]; rfl
          have e2 : psI zs ⟨.key, z, a.ps, a.l, a.k⟩ (i + 1) = a.ps ++ [(z, z2)] := by
            unfold psI
            rw [hz2]
            rfl
          rw [e2]
          rw [e1] at hus3
          exact pairs_snoc (pairs_bt (pairs_same hus3 sT) nt Bt.st) (pair_bt pair_new nt Bt.st)
    refine ite2 (fun h => absurd (of_decide_eq_true (inV_deeds.symm.trans h)) hd) (fun _ => ?_)
    refine ⟨_, .inl (SqL.of hp3), _, ezi, (by show 2 ≤ sizeLine; decide), fun w2 nw2 => ?_⟩
    have sw := same_new (o := .lst [.str "lock", .str "keep"]) nw2
    have s3 := s3.trans sw
    have eR3 := sw _ _ eR3
    have hus3 := pairs_same hus3 sw
    have eL3 := sw _ _ eL3
    have eM3 := sw _ _ eM3
    have ew : (upd H3 w2 (.lst [.str "lock", .str "keep"])) w2 = some (.lst [.str "lock", .str "keep"]) := upd_same
    generalize upd H3 w2 (.lst [.str "lock", .str "keep"]) = H4 at s3 eR3 hus3 eL3 eM3 ew ⊢
    clear sw nw2 hp3
    have hp3 := s3 _ _ hp
    refine ⟨_, .inl (SqL.of ew), rfl, rfl, ?_⟩
    by_cases hl : z ∈ (["lock", "keep"] : List Str)
    · refine ite2 (fun _ => ?_) (fun h => absurd (lk_in.trans (decide_eq_true hl)) h)
      have hl2 : z = "lock" ∨ z = "keep" := by simpa using hl
      refine ⟨_, .inl (SqL.of hp3), _, ezi, ?_⟩
      have nm1 : isName z ≠ true := fun h => hl2.elim (name_not h).2.1 (name_not h).2.2.1
      have keepsI : ∀ b : Acc, b.ps = a.ps → a.g ≠ .key → b.g ≠ .key → psI zs b (i + 1) = psI zs a i := fun b h1 h2 h3 => by
        unfold psI
        rw [if_neg h2, if_neg h3, h1]
      cases hx with
      | deed h e => exact absurd e hd
      | key h e => exact absurd e nm1
      | comma h e => exact absurd hl2 (by rw [e]; exact fun h => h.elim lits2.2.2.2.1 lits2.2.2.2.2.1)
      | semi h e => exact absurd hl2 (by rw [e]; exact fun h => h.elim lits2.2.2.2.2.2.1 lits2.2.2.2.2.2.2.1)
      | more h e => exact absurd e nm1
      | end_ h e => exact absurd hl2 (by rw [e]; exact fun h => h.elim lits2.2.2.2.2.2.1 lits2.2.2.2.2.2.2.1)
      | fin h e => exact absurd e nm1
      | lock h e => exact ⟨_, us, _, by rw [e]; rfl, s3, gb, eR3, by rw [keepsI ⟨.first, a.d, a.ps, a.l, a.k⟩ rfl (by rw [h]; exact fun h => nomatch h) (fun h => nomatch h)]; exact hus3, eL3, eM3⟩
      | keep h e => exact ⟨_, us, _, by rw [e]; rfl, s3, gb, eR3, by rw [keepsI ⟨.last, a.d, a.ps, a.l, a.k⟩ rfl (by rcases h with h | h <;> rw [h] <;> exact fun h => nomatch h) (fun h => nomatch h)]; exact hus3, eL3, eM3⟩
    refine ite2 (fun h => absurd (of_decide_eq_true (lk_in.symm.trans h)) hl) (fun _ => ?_)
    have nl : z ≠ "lock" ∧ z ≠ "keep" := ⟨fun e => hl (by rw [e]; exact List.mem_cons_self), fun e => hl (by rw [e]; exact List.mem_cons_of_mem _ List.mem_cons_self)⟩
    clear hl
    have keepsI : ∀ b : Acc, b.ps = a.ps → a.g ≠ .key → b.g ≠ .key → psI zs b (i + 1) = psI zs a i := fun b h1 h2 h3 => by
      unfold psI
      rw [if_neg h2, if_neg h3, h1]
    obtain ⟨_, _, _, _, _, _, _, _, x1, x2, x3⟩ := lits2
    cases hx with
    | deed h e => exact absurd e hd
    | lock h e => exact absurd e nl.1
    | keep h e => exact absurd e nl.2
    | key h e =>
      have sv : stg a.g = Str.empty := by rw [h]; rfl
      rw [sv]
      have e1 : psI zs a i = a.ps ++ [(a.d, z)] := by
        unfold psI
        rw [h, hzi]
        rfl
      rw [e1] at hus3
      exact ⟨_, us, _, rfl, s3, gb, eR3, hus3, eL3, eM3⟩
    | comma h e =>
      have sv : stg a.g = Str.empty := by rw [h]; rfl
      rw [sv]
      exact ⟨_, us, _, rfl, s3, gb, eR3, by rw [keepsI ⟨.deed, a.d, a.ps, a.l, a.k⟩ rfl (by rw [h]; exact fun h => nomatch h) (fun h => nomatch h)]; exact hus3, eL3, eM3⟩
    | semi h e =>
      have sv : stg a.g = Str.empty := by rw [h]; rfl
      rw [sv]
      exact ⟨_, us, _, rfl, s3, gb, eR3, by rw [keepsI ⟨.rows, a.d, a.ps, a.l, a.k⟩ rfl (by rw [h]; exact fun h => nomatch h) (fun h => nomatch h)]; exact hus3, eL3, eM3⟩
    | end_ h e =>
      have sv : stg a.g = "lock" := by rw [h]; rfl
      rw [sv]
      refine ⟨_, .inl (SqL.of hp3), _, ezi, ?_⟩
      refine ite2 (fun h => absurd e (of_decide_eq_false (by simpa using h))) (fun _ => ?_)
      exact ⟨_, us, _, rfl, s3, gb, eR3, by rw [keepsI ⟨.behind, a.d, a.ps, a.l, a.k⟩ rfl (by rw [h]; exact fun h => nomatch h) (fun h => nomatch h)]; exact hus3, eL3, eM3⟩
    | more h e =>
      have sv : stg a.g = "lock" := by rcases h with h | h <;> rw [h] <;> rfl
      rw [sv]
      refine ⟨_, .inl (SqL.of hp3), _, ezi, ?_⟩
      refine ite2 (fun _ => ?_) (fun h => absurd (name_not e).2.2.2 (by simpa using h))
      refine ⟨.inl ⟨rfl, _, SqL.of eL3⟩, _, .inl (SqL.of hp3), _, ezi, L, _, _, rfl, rfl, eL3, line_lt (by rw [List.length_map]; omega), ?_⟩
      have nt := NT.lst (H := H4) (st := L) ⟨_, eL3⟩
      exact ⟨_, us, _, rfl, fun b o hb => by rw [upd_ne (ne_of_none hb nL0)]; exact s3 _ _ hb, gb, by rw [upd_ne LR.symm]; exact eR3, by rw [keepsI ⟨.more, a.d, a.ps, a.l ++ [z], a.k⟩ rfl (by rcases h with h | h <;> rw [h] <;> exact fun h => nomatch h) (fun h => nomatch h)]; exact pairs_bt hus3 nt Bt.st, by rw [upd_same, List.map_append]; rfl, by rw [upd_ne ML]; exact eM3⟩
    | fin h e =>
      have sv : stg a.g = "keep" := by rcases h with h | h <;> rw [h] <;> rfl
      rw [sv]
      refine ⟨.inl ⟨rfl, _, SqL.of eM3⟩, _, .inl (SqL.of hp3), _, ezi, M, _, _, rfl, rfl, eM3, line_lt (by rw [List.length_map]; omega), ?_⟩
      have nt := NT.lst (H := H4) (st := M) ⟨_, eM3⟩
      exact ⟨_, us, _, rfl, fun b o hb => by rw [upd_ne (ne_of_none hb nM0)]; exact s3 _ _ hb, gb, by rw [upd_ne MR.symm]; exact eR3, by rw [keepsI ⟨.fin, a.d, a.ps, a.l, a.k ++ [z]⟩ rfl (by rcases h with h | h <;> rw [h] <;> exact fun h => nomatch h) (fun h => nomatch h)]; exact pairs_bt hus3 nt Bt.st, by rw [upd_ne ML.symm]; exact eL3, by rw [upd_same, List.map_append]; rfl⟩
  rintro σ' H2 ⟨a, us, y, rfl, sm, ga, eR, hus, eL, eM⟩
  rw [ga] at gc
  cases gc
  refine ⟨(by show 3 ≤ sizeLine; decide), fun t nt => ?_⟩
  have st := same_new (o := .tup [.ref R, .ref L, .ref M]) nt
  have e1 : psI zs c zs.length = c.ps := by
    unfold psI
    rw [if_neg (fun h => by rw [h] at oc; cases oc)]
  rw [e1] at hus
  exact q _ t R L M (sm.trans st) upd_same ⟨us, st _ _ eR, pairs_same hus st⟩ (st _ _ eL) (st _ _ eM)
end
section
variable {P : Program} {w : World} {K : PySem.W.Frag} {mg : Str → Option Value} {base : Heap}
variable {t_DIGITS t_LETTERS t_LONGEST_NAME : Tok} {a_DEEDS a_MARKS a_RESERVED a_SIGNS a_BadName a_BadPlan a_BadText a_ElseputError a_Plan a_Reader : Addr}
theorem mem_looked {ps : List Stp} {k : Str} : k ∈ looked ps ↔ lo k ∈ ps := by
  unfold looked
  constructor
  · intro h
    obtain ⟨s, hs, e⟩ := List.mem_map.mp h
    obtain ⟨d, j⟩ := s
    obtain ⟨h1, h2⟩ := List.mem_filter.mp hs
    have h2 : d = "look" := of_decide_eq_true h2
    have e : j = k := e
    rw [h2, e] at h1
    exact h1
  · intro h
    exact List.mem_map.mpr ⟨lo k, List.mem_filter.mpr ⟨h, decide_eq_true (rfl : ("look" : Str) = "look")⟩, rfl⟩
theorem nodup_of {α : Type} {zs : List α} (h : ∀ (i : Nat) (z : α), zs[i]? = some z → z ∉ zs.take i) : zs.Nodup := by
  refine List.pairwise_iff_getElem.mpr fun i j hi hj hij e => ?_
  refine h j _ (List.getElem?_eq_getElem hj) ?_
  rw [← e]
  have : (zs.take j)[i]? = some zs[i] := by rw [List.getElem?_take_of_lt hij]; exact List.getElem?_eq_getElem hi
  exact List.mem_of_getElem? this
theorem nodup_at {α : Type} {zs : List α} (n : zs.Nodup) {i : Nat} {z : α} (e : zs[i]? = some z) : z ∉ zs.take i := fun h => by
  obtain ⟨j, hj, ej⟩ := List.getElem_of_mem h
  have ej : (zs.take i)[j]? = some z := by rw [List.getElem?_eq_getElem hj, ej]
  rw [List.length_take] at hj
  rw [List.getElem?_take_of_lt (by omega)] at ej
  have := (List.getElem?_inj (by omega) n).mp (ej.trans e.symm)
  omega
/-- what is wrong with the key at i -/
def keyBad (ps : List Stp) (zs : List Str) (i : Nat) : Bool := match zs[i]? with
  | some z => !decide (z ∈ looked ps) || decide (z ∈ zs.take i)
  | none => false
theorem keyBad_at {ps : List Stp} {zs : List Str} {i : Nat} {z : Str} (e : zs[i]? = some z) : keyBad ps zs i = (!decide (z ∈ looked ps) || decide (z ∈ zs.take i)) := by
  unfold keyBad
  rw [e]
theorem keys_none {ps : List Stp} {zs : List Str} : ((List.range zs.length).filter (keyBad ps zs)).length = 0 ↔ keysFit ps zs = true := by
  rw [List.length_eq_zero_iff, List.filter_eq_nil_iff]
  unfold keysFit
  rw [Bool.and_eq_true, decide_eq_true_iff, List.all_eq_true]
  constructor
  · intro h
    have all : ∀ (i : Nat) (z : Str), zs[i]? = some z → z ∈ looked ps ∧ z ∉ zs.take i := fun i z e => by
      have k := h i (List.mem_range.mpr (List.getElem?_eq_some_iff.mp e).1)
      rw [keyBad_at e] at k
      simpa using k
    refine ⟨nodup_of fun i z e => (all i z e).2, fun z hz => ?_⟩
    obtain ⟨i, hi, e⟩ := List.getElem_of_mem hz
    exact decide_eq_true (mem_looked.mp (all i z (by rw [List.getElem?_eq_getElem hi, e])).1)
  · rintro ⟨n, h⟩ i hi
    obtain ⟨z, e⟩ : ∃ z, zs[i]? = some z := ⟨_, List.getElem?_eq_getElem (List.mem_range.mp hi)⟩
    rw [keyBad_at e]
    have a := mem_looked.mpr (of_decide_eq_true (h z (List.mem_of_getElem? e)))
    have b := nodup_at n e
    simp [a, b]
theorem fits_no {ps : List Stp} {i : Nat} {p : Stp} (e : ps[i]? = some p) (h : p ∈ ps.take i ∨ stepFits ps i p = false) : stepsFit ps = false := by
  cases f : stepsFit ps with
  | false => rfl
  | true =>
    unfold stepsFit at f
    rw [Bool.and_eq_true, Bool.and_eq_true, decide_eq_true_iff, decide_eq_true_iff, List.all_eq_true] at f
    rcases h with h | h
    · exact absurd h (nodup_at f.1.2 e)
    · have k := f.2 i (List.mem_range.mpr (List.getElem?_eq_some_iff.mp e).1)
      rw [e] at k
      have k : stepFits ps i p = true := k
      rw [h] at k
      cases k
theorem fits_yes {ps : List Stp} (ne : ps ≠ []) (h : ∀ (i : Nat) (p : Stp), ps[i]? = some p → p ∉ ps.take i ∧ stepFits ps i p = true) : stepsFit ps = true := by
  unfold stepsFit
  rw [Bool.and_eq_true, Bool.and_eq_true, decide_eq_true_iff, decide_eq_true_iff, List.all_eq_true]
  refine ⟨⟨ne, nodup_of fun i p e => (h i p e).1⟩, fun i hi => ?_⟩
  obtain ⟨p, e⟩ : ∃ p, ps[i]? = some p := ⟨_, List.getElem?_eq_getElem (List.mem_range.mp hi)⟩
  rw [e]
  exact (h i p e).2
def sp__law_is_plan (K : PySem.W.Frag) : Sp := fun vs H Q _ => ∃ (R L M : Addr) (ps : List Stp) (lk kp : List Str), vs = [.ref R, .ref L, .ref M] ∧ (∃ us, H R = some (.lst us) ∧ PairsIn K H us ps) ∧ H L = some (.lst (lk.map V.str)) ∧ H M = some (.lst (kp.map V.str)) ∧ ps.length < 64 ∧ lk.length < 64 ∧ kp.length < 64 ∧ ps ≠ [] ∧ (∀ s ∈ ps, s.1 ∈ deeds) ∧ ∀ H', Same H H' → Q (.bl (planFits ps lk kp)) H'
theorem len__law_is_plan {vs : List V} {H : Hp} {Q : VK} {E : XK} (h : sp__law_is_plan K vs H Q E) : vs.length = 3 := by
  obtain ⟨_, _, _, _, _, _, rfl, _⟩ := h
  rfl
theorem ok__law_is_plan {f : Addr} {fd : FuncData} (F : Fun K "_law_is_plan" "_law_is_plan" s__law_is_plan f fd) (T : Gs K mg t_DIGITS t_LETTERS t_LONGEST_NAME a_DEEDS a_MARKS a_RESERVED a_SIGNS a_BadName a_BadPlan a_BadText a_ElseputError a_Plan a_Reader) : FnOk P w K mg base CX0 1 f fd ["_law_steps", "_law_row_keys", "_law_held_keys"] (sp__law_is_plan K) := by
  refine F.ok sc__law_is_plan (fun vs H Q E h => len__law_is_plan h) (fun cdv A outer s H vs Q E hr h => ?_)
  obtain ⟨R, L, M, ps, lk, kp, rfl, ⟨vs, hR, hp⟩, hL, hM, few, fl, fk, ne, hdd, q⟩ := h
  refine ⟨_, (pss_cons (ps_set (i := 3) sc__law_is_plan.nd rfl (.inr rfl) (pe_lc (own := [("_law_step", 6)]) (g := gName 6) (by rfl) sc__law_is_plan.nd (pi_list (v_ 0)) (blkOk_by (N := ["_law_steps", "_law_row_keys", "_law_held_keys", "_law_looked", "_law_k", "_law_row", "_law_step"]) (sc := defScope s__law_is_plan) (by decide +kernel)) (fun _ _ _ _ _ => pg_name (i := 6) sc__law_is_plan.nd rfl (Or.inl rfl)) (fun _ _ _ _ _ => pts_one (pt_c (eqK K hr.units) (e_x K (v_ 6) pe_int) pe_str)) (fun _ _ _ _ _ => (e_x K (v_ 6) pe_int)))) (pss_cons (ps_for PassesOwn.never rfl (pi_range1 rfl T.z_range (pa_cons (pe_callB (lenK K) (by rfl) T.z_len PySem.boot_len (pa_cons (v_ 0) pa_nil)) pa_nil)) (pg_name (i := 4) sc__law_is_plan.nd rfl (.inl rfl)) (pss_cons (ps_if (PW.pt (pw_or (pt_c (inP K hr.units) (e_x K (v_ 0) (v_ 4)) (pe_slice (slK K) (v_ 0) po_none (po_some (v_ 4)))) (pw_or1 (pt_c (notInK K) (e_x K (e_x K (v_ 0) (v_ 4)) pe_int) (v_ 3))))) (pss_one (ps_ret pe_bl)) pss_nil) (pss_one (ps_if (PW.pt (pw_and (pt_c (eqK K hr.units) (e_x K (e_x K (v_ 0) (v_ 4)) pe_int) pe_str) (pw_and1 (pt_c (notInP K hr.units) (pe_tup (pa_cons pe_str (pa_cons (e_x K (e_x K (v_ 0) (v_ 4)) pe_int) pa_nil))) (pe_slice (slK K) (v_ 0) po_none (po_some (v_ 4))))))) (pss_one (ps_ret pe_bl)) pss_nil)))) (pss_cons (ps_for PassesOwn.never rfl (pi_list (pe_lst (pa_cons (v_ 1) (pa_cons (v_ 2) pa_nil)))) (pg_name (i := 5) sc__law_is_plan.nd rfl (.inr rfl)) (pss_one (ps_if (pt_c op_gtM (pe_callB (lenK K) (by rfl) T.z_len PySem.boot_len (pa_cons (pe_lc (own := [("_law_k", 4)]) (g := gName 4) (by rfl) sc__law_is_plan.nd (pi_range1 rfl T.z_range (pa_cons (pe_callB (lenK K) (by rfl) T.z_len PySem.boot_len (pa_cons (v_ 5) pa_nil)) pa_nil)) (blkOk_by (N := ["_law_steps", "_law_row_keys", "_law_held_keys", "_law_looked", "_law_k", "_law_row", "_law_step"]) (sc := defScope s__law_is_plan) (by decide +kernel)) (fun _ _ _ _ _ => pg_name (i := 4) sc__law_is_plan.nd rfl (Or.inl rfl)) (fun _ _ _ _ _ => pts_one (PW.pt (pw_or (pt_c (notInK K) (e_x K (v_ 5) (v_ 4)) (v_ 3)) (pw_or1 (pt_c (inK K) (e_x K (v_ 5) (v_ 4)) (pe_slice (slK K) (v_ 5) po_none (po_some (v_ 4)))))))) (fun _ _ _ _ _ => (v_ 4))) pa_nil)) pe_int) (pss_one (ps_ret pe_bl)) pss_nil))) (pss_one (ps_ret pe_bl))))), ?_⟩
  have vl := pairs_len hp
  refine ⟨R, rfl, ⟨_, SqL.of hR⟩, fun D nD => ?_⟩
  refine lc_it (walk_list (xs := vs)) (PvP H D (keepF ps (fun p => decide (p.1 = ("look" : Str))) fun p => .str p.2)) (pvp_start nD rfl) (fun _ _ _ h => SqL.of (h.1 _ _ hR)) ?_ ?_
  · rintro i v H1 H2 hi pv ⟨rfl, hv⟩
    obtain ⟨⟨d, z⟩, e, r, rfl, hr⟩ := pairs_at (pairs_same hp pv.1) hv
    refine ⟨rfl, ?_⟩
    refine ⟨_, .inr hr, .str d, rfl, ?_⟩
    refine ite2 (fun c => ?_) (fun c => ?_)
    · exact ⟨_, .inr hr, .str z, rfl, pvp_put nD pv (Same.refl _) (keepF_put e c) (Nat.lt_of_le_of_lt keepF_len (by omega))⟩
    · exact pvp_skip pv (Same.refl _) (keepF_skip e c)
  rintro H0 ⟨s0, hd⟩
  rw [keepF_all vl] at hd
  have hd : H0 D = some (.lst ((looked ps).map V.str)) := by
    rw [hd]
    unfold looked
    rw [List.map_map]
    rfl
  have hR0 := s0 _ _ hR
  have hp0 := pairs_same hp s0
  have hL0 := s0 _ _ hL
  have hM0 := s0 _ _ hM
  have q0 : ∀ H', Same H0 H' → Q (.bl (planFits ps lk kp)) H' := fun H' s => q H' (s0.trans s)
  have no1 : stepsFit ps = false → ∀ H', Same H0 H' → Q (.bl false) H' := fun h H' s => by
    have z := q0 H' s
    unfold planFits at z
    rw [h, Bool.false_and, Bool.false_and] at z
    exact z
  clear q
  refine .inl ⟨_, .inl (SqL.of hR0), vs.length, rfl, by omega, by omega, ?_⟩
  refine for_range (lo := 0) (n := vs.length) (fun i σ' H' => (∃ y, σ' = [some (.ref R), some (.ref L), some (.ref M), some (.ref D), y, none, none]) ∧ Same H0 H' ∧ ∀ (j : Nat) (p : Stp), j < i → ps[j]? = some p → p ∉ ps.take j ∧ stepFits ps j p = true) ⟨⟨_, rfl⟩, Same.refl _, fun j _ h => absurd h (Nat.not_lt_zero j)⟩ ?_ ?_
  · rintro i σ' H1 hi ⟨⟨y, rfl⟩, sm, ok⟩
    obtain ⟨⟨dd, k⟩, ep⟩ : ∃ p, ps[i]? = some p := ⟨_, List.getElem?_eq_getElem (by omega)⟩
    obtain ⟨v, ev, r, rfl, hr⟩ := pairs_to (pairs_same hp0 sm) ep
    have ev2 : atI vs (0 + (i : Int)) = some (.ref r) := by rw [Int.zero_add]; exact atI_nat ev
    have no : (((dd, k) : Stp) ∈ ps.take i ∨ stepFits ps i (dd, k) = false) → ∀ H', Same H1 H' → Q (.bl false) H' := fun h H' s => no1 (fits_no ep h) H' (sm.trans s)
    have cd : decide (dd ∈ deeds) = true := decide_eq_true (hdd _ (List.mem_of_getElem? ep))
    refine ⟨vs, .inl (SqL.of (sm _ _ hR0)), _, ev2, _, rfl, .inl ⟨_, SqL.of (sm _ _ hR0), fun u2 nu2 => ?_⟩⟩
    rw [cutV_take _ (by omega), show ((0 : Int) + i).toNat = i by omega]
    have s3 := same_new (o := .lst (vs.take i)) nu2
    have sd3 := sm.trans s3
    have hu2 : (upd H1 u2 (.lst (vs.take i))) u2 = some (.lst (vs.take i)) := upd_same
    generalize upd H1 u2 (.lst (vs.take i)) = H2 at s3 sd3 hu2 ⊢
    refine ⟨(dd, k), u2, vs.take i, ps.take i, ⟨r, rfl, SqT.same hr s3⟩, rfl, .inr (SqL.of hu2), pairs_take (pairs_same hp0 sd3) i, ?_⟩
    refine ite2 (fun c3 => ?_) (fun c3 => ?_)
    · exact no (.inl (of_decide_eq_true c3)) _ s3
    have c3 : ((dd, k) : Stp) ∉ ps.take i := of_decide_eq_false (Bool.eq_false_iff.mpr c3)
    have hr2 := SqT.same hr s3
    refine ⟨vs, .inl (SqL.of (sd3 _ _ hR0)), _, ev2, _, .inr hr2, .str k, rfl, ?_⟩
    refine ⟨_, .inl (SqL.of (sd3 _ _ hd)), rfl, flat_strs, ?_⟩
    refine ite2 (fun c2 => ?_) (fun c2 => ?_)
    · have c2 : k ∉ looked ps := by
        have c2 : (!inV (.str k) ((looked ps).map V.str)) = true := c2
        rw [inV_str] at c2
        simpa using c2
      refine no (.inr ?_) _ s3
      unfold stepFits
      rw [decide_eq_false fun h => c2 (mem_looked.mpr h), Bool.and_false]
      exact ite_self _
    have c2 : k ∈ looked ps := by
      have c2 : ¬ (!inV (.str k) ((looked ps).map V.str)) = true := c2
      rw [inV_str] at c2
      simpa using c2
    have next : ∀ H3, Same H1 H3 → stepFits ps i (dd, k) = true → (∃ y, [some (V.ref R), some (V.ref L), some (V.ref M), some (V.ref D), some (V.int (0 + (i : Int))), none, none] = [some (V.ref R), some (V.ref L), some (V.ref M), some (V.ref D), y, none, none]) ∧ Same H0 H3 ∧ ∀ (j : Nat) (p : Stp), j < i + 1 → ps[j]? = some p → p ∉ ps.take j ∧ stepFits ps j p = true := fun H3 s f => ⟨⟨_, rfl⟩, sm.trans s, fun j p hj e => by
      by_cases z : j = i
      · subst z
        rw [ep] at e
        cases e
        exact ⟨c3, f⟩
      · exact ok j p (by omega) e⟩
    have into : ¬ (dd = "free" ∧ tk k ∉ ps.take i) → stepFits ps i (dd, k) = true := fun h => by
      have z : stepFits ps i (dd, k) = (decide (dd ∈ deeds) && decide (lo k ∈ ps)) := if_neg h
      rw [z, cd, decide_eq_true (mem_looked.mp c2)]
      rfl
    refine ⟨vs, .inl (SqL.of (sd3 _ _ hR0)), _, ev2, _, .inr hr2, .str dd, rfl, ?_⟩
    refine ite2 (fun c4 => ?_) (fun c4 => ?_)
    · have c4 : dd = "free" := of_decide_eq_true c4
      refine ⟨vs, .inl (SqL.of (sd3 _ _ hR0)), _, ev2, _, .inr hr2, .str k, rfl, (by show 2 ≤ sizeLine; decide), fun p np => ?_⟩
      have s4 := same_new (o := .tup [.str "take", .str k]) np
      have sd4 := sd3.trans s4
      refine ⟨_, rfl, .inl ⟨_, SqL.of (sd4 _ _ hR0), fun u3 nu3 => ?_⟩⟩
      rw [cutV_take _ (by omega), show ((0 : Int) + i).toNat = i by omega]
      have s5 := same_new (o := .lst (vs.take i)) nu3
      refine ⟨tk k, u3, vs.take i, ps.take i, pair_same pair_new s5, rfl, .inr (SqL.of upd_same), pairs_take (pairs_same hp0 (sd4.trans s5)) i, ?_⟩
      refine ite2 (fun c5 => ?_) (fun c5 => ?_)
      · refine no (.inr ?_) _ ((s3.trans s4).trans s5)
        exact if_pos ⟨c4, of_decide_eq_true c5⟩
      · exact next _ ((s3.trans s4).trans s5) (into fun h => c5 (decide_eq_true h.2))
    · have c4 : dd ≠ "free" := fun h => c4 (decide_eq_true h)
      exact next _ s3 (into fun h => c4 h.1)
  rintro σ' H1 ⟨⟨y, rfl⟩, sm, ok⟩
  have f1 : stepsFit ps = true := fits_yes ne fun i p e => ok i p (by have := (List.getElem?_eq_some_iff.mp e).1; omega) e
  clear ok
  refine ⟨(by show 2 ≤ sizeLine; decide), fun u nu => ?_⟩
  have su := same_new (o := .lst [.ref L, .ref M]) nu
  have hu : (upd H1 u (.lst [.ref L, .ref M])) u = some (.lst [.ref L, .ref M]) := upd_same
  have s2 := sm.trans su
  generalize upd H1 u (.lst [.ref L, .ref M]) = H2 at hu s2 ⊢
  refine ⟨u, rfl, ⟨_, SqL.of hu⟩, ?_⟩
  refine for_list (K := K) (a := u) (xs := [.ref L, .ref M]) (fun i σ' H' => (∃ y z, σ' = [some (.ref R), some (.ref L), some (.ref M), some (.ref D), y, z, none]) ∧ Same H2 H' ∧ (1 ≤ i → keysFit ps lk = true) ∧ (2 ≤ i → keysFit ps kp = true)) ⟨⟨_, _, rfl⟩, Same.refl _, fun h => absurd h (by decide), fun h => absurd h (by decide)⟩ (fun i σ' H' _ h => SqL.of (h.2.1 _ _ hu)) ?_ ?_
  · rintro i v σ' H3 hi ⟨⟨y, z, rfl⟩, s3, k1, k2⟩
    have s23 := s2.trans s3
    obtain ⟨X, zs, rfl, hX, fz, got, bad⟩ : ∃ (X : Addr) (zs : List Str), v = .ref X ∧ H3 X = some (.lst (zs.map V.str)) ∧ zs.length < 64 ∧ (keysFit ps zs = true → (1 ≤ i + 1 → keysFit ps lk = true) ∧ (2 ≤ i + 1 → keysFit ps kp = true)) ∧ (keysFit ps zs = false → planFits ps lk kp = false) := by
      match i, hi with
      | 0, hi =>
        cases hi
        exact ⟨L, lk, rfl, s23 _ _ hL0, fl, fun h => ⟨fun _ => h, fun h => absurd h (by decide)⟩, fun h => by unfold planFits; rw [h, Bool.and_false, Bool.false_and]⟩
      | 1, hi =>
        cases hi
        exact ⟨M, kp, rfl, s23 _ _ hM0, fk, fun h => ⟨fun _ => k1 (by decide), fun _ => h⟩, fun h => by unfold planFits; rw [h, Bool.and_false]⟩
      | i + 2, hi => cases hi
    have hd3 := s23 _ _ hd
    refine .inl ⟨_, .inl (SqL.of hX), _, rfl, by omega, by rw [List.length_map]; omega, fun D2 nD2 => ?_⟩
    rw [List.length_map]
    refine lc_it (walk_range (lo := 0) (n := zs.length)) (PvP H3 D2 (keepF (List.range zs.length) (keyBad ps zs) fun i => .int (0 + (i : Int)))) (pvp_start nD2 rfl) (fun _ _ _ _ => trivial) ?_ ?_
    · rintro i v H4 H5 hi pv ⟨rfl, hv⟩
      cases hv
      obtain ⟨z, e⟩ : ∃ z, zs[i]? = some z := ⟨_, List.getElem?_eq_getElem (by omega)⟩
      have er : (List.range zs.length)[i]? = some i := List.getElem?_range (by omega)
      have kb := keyBad_at (ps := ps) e
      have ez : atI (zs.map V.str) (0 + (i : Int)) = some (.str z) := by rw [Int.zero_add]; exact atI_nat (by rw [List.getElem?_map, e]; rfl)
      have hl2 := pv.1 _ _ hX
      have hd2 := pv.1 _ _ hd3
      have put : ∀ {H6 : Hp}, Same H5 H6 → keyBad ps zs i = true → ∃ a, H6 D2 = some (.lst a) ∧ a.length < sizeLine ∧ PvP H3 D2 (keepF (List.range zs.length) (keyBad ps zs) fun i => .int (0 + (i : Int))) (i + 1) (upd H6 D2 (.lst (a ++ [.int (0 + (i : Int))]))) := fun s k => pvp_put nD2 pv s (keepF_put er k) (Nat.lt_of_le_of_lt keepF_len (by rw [List.length_range]; omega))
      refine ⟨rfl, ?_⟩
      refine ⟨_, .inl (SqL.of hl2), _, ez, _, .inl (SqL.of hd2), rfl, flat_strs, ?_⟩
      refine ite2 (fun c => ?_) (fun c => ?_)
      · have c : decide (z ∈ looked ps) = false := by
          have c : (!inV (.str z) ((looked ps).map V.str)) = true := c
          rw [inV_str] at c
          simpa using c
        exact put (Same.refl _) (by rw [kb, c]; rfl)
      · have c : decide (z ∈ looked ps) = true := by
          have c : ¬ (!inV (.str z) ((looked ps).map V.str)) = true := c
          rw [inV_str] at c
          simpa using c
        refine ⟨_, .inl (SqL.of hl2), _, ez, _, rfl, .inl ⟨_, SqL.of hl2, fun u nu => ?_⟩⟩
        rw [cutV_take _ (by omega), show ((0 : Int) + i).toNat = i by omega, ← List.map_take]
        have s5 := same_new (o := .lst ((zs.take i).map V.str)) nu
        refine ⟨_, .inl (SqL.of upd_same), rfl, flat_strs, ?_⟩
        refine ite2 (fun c2 => ?_) (fun c2 => ?_)
        · have c2 : decide (z ∈ zs.take i) = true := inV_str.symm.trans c2
          exact put s5 (by rw [kb, c2, Bool.or_true])
        · have c2 : decide (z ∈ zs.take i) = false := inV_str.symm.trans (Bool.eq_false_iff.mpr c2)
          exact pvp_skip pv s5 (keepF_skip er (by rw [kb, c, c2]; decide))
    · rintro H4 ⟨s4, hD2⟩
      rw [keepF_all (by rw [List.length_range])] at hD2
      refine .inl ⟨_, .inl (SqL.of hD2), ?_⟩
      rw [List.length_map]
      refine ite2 (fun c => ?_) (fun c => ?_)
      · have c : (0 : Int) < (((List.range zs.length).filter (keyBad ps zs)).length : Int) := of_decide_eq_true c
        have kf : keysFit ps zs = false := by
          cases h : keysFit ps zs with
          | false => rfl
          | true => have := keys_none.mpr h; omega
        have z := q0 _ (s23.trans s4)
        rw [bad kf] at z
        exact z
      · have c : ¬ (0 : Int) < (((List.range zs.length).filter (keyBad ps zs)).length : Int) := of_decide_eq_false (Bool.eq_false_iff.mpr c)
        have kf : keysFit ps zs = true := keys_none.mp (by omega)
        exact ⟨⟨_, _, rfl⟩, s3.trans s4, got kf⟩
  rintro σ' H3 ⟨⟨y, z, rfl⟩, s3, k1, k2⟩
  have z := q0 _ (s2.trans s3)
  unfold planFits at z
  rw [f1, k1 (by show 1 ≤ 2; decide), k2 (by show 2 ≤ 2; decide)] at z
  exact z
end
section
variable {P : Program} {w : World} {K : PySem.W.Frag} {mg : Str → Option Value} {base : Heap}
variable {t_DIGITS t_LETTERS t_LONGEST_NAME : Tok} {a_DEEDS a_MARKS a_RESERVED a_SIGNS a_BadName a_BadPlan a_BadText a_ElseputError a_Plan a_Reader : Addr}
/-! ### what is due -/
theorem go_ne {ok : Str → Bool} {ws : List Str} : ∀ {i : Nat} {a : Acc}, goT ok ws i = some a → a.g ≠ .deed → a.g ≠ .key → a.ps ≠ []
  | 0, a, h, h1, _ => by
    cases h
    exact absurd rfl h1
  | i + 1, a, h, h1, h2 => by
    have h : (match goT ok ws i, ws[i]? with
      | some a, some z => nextT ok a z
      | _, _ => none) = some a := h
    cases e : goT ok ws i with
    | none => rw [e] at h; cases h
    | some b =>
      cases e2 : ws[i]? with
      | none => rw [e, e2] at h; cases h
      | some z =>
        rw [e, e2] at h
        have h : nextT ok b z = some a := h
        have ih := go_ne e
        unfold nextT at h
        cases hg : b.g <;> rw [hg] at h ih <;> simp only at h <;> (repeat' split at h) <;> first
          | (cases h; done)
          | (cases h; exact absurd rfl h1)
          | (cases h; exact absurd rfl h2)
          | (cases h; exact ih (fun h => nomatch h) (fun h => nomatch h))
          | (cases h; exact fun h => nomatch (List.append_eq_nil_iff.mp h).2)
theorem acc_shrt {ws : List Str} {n : Nat} {c : Acc} (h : goT isName ws n = some c) (l : n ≤ 100) : Shrt c.ps (among c.ps c.l) (among c.ps c.k) := by
  obtain ⟨_, a2, a3, a4, a5⟩ := go_ok h
  have am : ∀ zs, (among c.ps zs).length ≤ c.ps.length := fun zs => Nat.le_trans (List.length_filter_le _ _) looked_len
  have nm12 : ∀ s ∈ c.ps, s.2.length ≤ 12 := fun s hs => (isName_mem (a2 s hs).2).2.2.1
  have dl : ∀ d ∈ deeds, d.length ≤ 4 := by decide +kernel
  have az : ∀ zs, ∀ z ∈ among c.ps zs, z.length ≤ 12 := fun zs z hz => by
    unfold among at hz
    have := mem_looked.mp (List.mem_filter.mp hz).1
    exact nm12 _ this
  have m1 := am c.l
  have m2 := am c.k
  exact ⟨by omega, by omega, by omega, fun s hs => ⟨dl _ (a2 s hs).1, nm12 s hs⟩, az _, az _⟩
theorem among_ne {ps : List Stp} {zs : List Str} (h : keysFit ps zs = true) (n : zs ≠ []) : among ps zs ≠ [] := by
  unfold keysFit at h
  rw [Bool.and_eq_true, List.all_eq_true] at h
  obtain ⟨z, hz⟩ := List.exists_mem_of_ne_nil _ n
  intro e
  unfold among at e
  rw [List.filter_eq_nil_iff] at e
  exact e z (mem_looked.mpr (of_decide_eq_true (h.2 z hz))) (decide_eq_true hz)
def sp__law_due (K : PySem.W.Frag) : Sp := fun vs H Q _ => ∃ (line : Str) (cl p n : Addr) (zs ns : List Str) (cs : List Nat) (o : Out), vs = [.str line, .ref cl, .ref p, .ref n] ∧ H cl = some (.lst (cs.map colV)) ∧ H p = some (.lst (zs.map V.str)) ∧ H n = some (.lst (ns.map V.str)) ∧ zs.length < 64 ∧ line.length ≤ 10000 ∧ (∀ z ∈ zs, isName z = true ↔ z ∈ ns) ∧ DueIs zs cs ((line.length : Int) + 1) o ∧
  ∀ (H' : Hp) (t : Addr), Same H H' → OutV K H' o t → Q (.ref t) H'
theorem len__law_due {vs : List V} {H : Hp} {Q : VK} {E : XK} (h : sp__law_due K vs H Q E) : vs.length = 4 := by
  obtain ⟨_, _, _, _, _, _, _, _, rfl, _⟩ := h
  rfl
theorem ok__law_due {f : Addr} {fd : FuncData} {f__law_misfit : Addr} {fd__law_misfit : FuncData} {f__law_plan_of : Addr} {fd__law_plan_of : FuncData} {f__law_is_plan : Addr} {fd__law_is_plan : FuncData} {f__law_text : Addr} {fd__law_text : FuncData} {f__law_strange : Addr} {fd__law_strange : FuncData} (F : Fun K "_law_due" "_law_due" s__law_due f fd) (T : Gs K mg t_DIGITS t_LETTERS t_LONGEST_NAME a_DEEDS a_MARKS a_RESERVED a_SIGNS a_BadName a_BadPlan a_BadText a_ElseputError a_Plan a_Reader) (c__law_misfit : Cal P w K mg base CX0 1 "_law_misfit" f__law_misfit fd__law_misfit ["_law_parts_here", "_law_names_here"] (sp__law_misfit K)) (c__law_plan_of : Cal P w K mg base CX0 1 "_law_plan_of" f__law_plan_of fd__law_plan_of ["_law_parts_here"] (sp__law_plan_of K)) (c__law_is_plan : Cal P w K mg base CX0 1 "_law_is_plan" f__law_is_plan fd__law_is_plan ["_law_steps", "_law_row_keys", "_law_held_keys"] (sp__law_is_plan K)) (c__law_text : Cal P w K mg base CX0 1 "_law_text" f__law_text fd__law_text ["_law_steps", "_law_row_keys", "_law_held_keys"] (sp__law_text K)) (c__law_strange : Cal P w K mg base CX0 1 "_law_strange" f__law_strange fd__law_strange [] (sp__law_strange K)) : FnOk P w K mg base CX0 2 f fd ["_law_line_here", "_law_columns", "_law_parts_here", "_law_names_here"] (sp__law_due K) := by
  refine F.ok sc__law_due (fun vs H Q E h => len__law_due h) (fun cdv A outer s H vs Q E hr h => ?_)
  obtain ⟨line, cl, p, n, zs, ns, cs, o, rfl, hc, hp, hn, few, ll, hin, due, q⟩ := h
  refine ⟨_, (pss_cons (ps_for PassesOwn.never rfl (pi_range1 rfl T.z_range (pa_cons (pe_callB (lenK K) (by rfl) T.z_len PySem.boot_len (pa_cons (v_ 2) pa_nil)) pa_nil)) (pg_name (i := 4) sc__law_due.nd rfl (.inl rfl)) (pss_one (ps_if (pt_c (inK K) (e_x K (v_ 2) (v_ 4)) (pe_call0 c__law_strange.G (hr.mono (by first | decide | omega)) rfl c__law_strange.m c__law_strange.kp c__law_strange.b .nil pass0)) (pss_one (ps_ret (pe_tup (pa_cons pe_str (pa_cons (pe_tup (pa_cons pe_bl (pa_cons pe_bl (pa_cons pe_bl pa_nil)))) (pa_cons (pe_tup (pa_cons pe_int (pa_cons (e_x K (v_ 1) (v_ 4)) pa_nil))) pa_nil)))))) pss_nil))) (pss_cons (ps_set (i := 5) sc__law_due.nd rfl (.inl rfl) (pe_call c__law_misfit.G (hr.mono (by first | decide | omega)) rfl c__law_misfit.m c__law_misfit.kp c__law_misfit.b .nil pass0 (pa_cons (v_ 2) (pa_cons (v_ 3) pa_nil)))) (pss_cons (ps_if (pt_c (eqK K hr.units) (v_ 5) (pe_callB (lenK K) (by rfl) T.z_len PySem.boot_len (pa_cons (v_ 2) pa_nil))) (pss_one (ps_ret (pe_tup (pa_cons pe_str (pa_cons (pe_tup (pa_cons pe_bl (pa_cons pe_bl (pa_cons pe_bl pa_nil)))) (pa_cons (pe_tup (pa_cons pe_int (pa_cons (pe_op (addK K) (pe_callB (lenK K) (by rfl) T.z_len PySem.boot_len (pa_cons (v_ 0) pa_nil)) pe_int) pa_nil))) pa_nil)))))) pss_nil) (pss_cons (ps_if (pt_c op_geM (v_ 5) pe_int) (pss_one (ps_ret (pe_tup (pa_cons pe_str (pa_cons (pe_tup (pa_cons pe_bl (pa_cons pe_bl (pa_cons pe_bl pa_nil)))) (pa_cons (pe_tup (pa_cons pe_int (pa_cons (e_x K (v_ 1) (v_ 5)) pa_nil))) pa_nil)))))) pss_nil) (pss_cons (ps_asg (pe_call c__law_plan_of.G (hr.mono (by first | decide | omega)) rfl c__law_plan_of.m c__law_plan_of.kp c__law_plan_of.b .nil pass0 (pa_cons (v_ 2) pa_nil)) (pg_tup (by rfl) (pgs_cons (pg_name (i := 9) sc__law_due.nd rfl (.inl rfl)) (pgs_cons (pg_name (i := 10) sc__law_due.nd rfl (.inr rfl)) (pgs_cons (pg_name (i := 11) sc__law_due.nd rfl (.inr rfl)) pgs_nil))))) (pss_cons (ps_if (pt_not (pt_t K (pe_call c__law_is_plan.G (hr.mono (by first | decide | omega)) rfl c__law_is_plan.m c__law_is_plan.kp c__law_is_plan.b .nil pass0 (pa_cons (v_ 9) (pa_cons (v_ 10) (pa_cons (v_ 11) pa_nil)))))) (pss_one (ps_ret (pe_tup (pa_cons pe_str (pa_cons (pe_tup (pa_cons pe_bl (pa_cons pe_bl (pa_cons pe_bl pa_nil)))) (pa_cons pe_non pa_nil)))))) pss_nil) (pss_cons (ps_setLc (i := 6) (own := [("_law_step", 12)]) (g := gName 12) (by rfl) sc__law_due.nd rfl rfl (sw_true rfl rfl rfl (by decide +kernel)) (pi_list (v_ 9)) (blkOk_by (N := ["_law_line_here", "_law_columns", "_law_parts_here", "_law_names_here", "_law_k", "_law_at", "_law_looked", "_law_first", "_law_second", "_law_steps", "_law_row_keys", "_law_held_keys", "_law_step", "_law_key"]) (sc := defScope s__law_due) (by decide +kernel)) (fun _ _ _ _ _ => pg_name (i := 12) sc__law_due.nd rfl (Or.inl rfl)) (fun _ _ _ _ _ => pts_one (pt_c (eqK K hr.units) (e_x K (v_ 12) pe_int) pe_str)) (fun _ _ _ _ _ => (e_x K (v_ 12) pe_int))) (pss_cons (ps_set (i := 7) sc__law_due.nd rfl (.inl rfl) (pe_callTy (tupleK K) (by rfl) T.z_tuple (by decide +kernel) (pa_cons (pe_lc (own := [("_law_key", 13)]) (g := gName 13) (by rfl) sc__law_due.nd (pi_list (v_ 6)) (blkOk_by (N := ["_law_line_here", "_law_columns", "_law_parts_here", "_law_names_here", "_law_k", "_law_at", "_law_looked", "_law_first", "_law_second", "_law_steps", "_law_row_keys", "_law_held_keys", "_law_step", "_law_key"]) (sc := defScope s__law_due) (by decide +kernel)) (fun _ _ _ _ _ => pg_name (i := 13) sc__law_due.nd rfl (Or.inl rfl)) (fun _ _ _ _ _ => pts_one (pt_c (inK K) (v_ 13) (v_ 10))) (fun _ _ _ _ _ => (v_ 13))) pa_nil))) (pss_cons (ps_set (i := 8) sc__law_due.nd rfl (.inl rfl) (pe_callTy (tupleK K) (by rfl) T.z_tuple (by decide +kernel) (pa_cons (pe_lc (own := [("_law_key", 13)]) (g := gName 13) (by rfl) sc__law_due.nd (pi_list (v_ 6)) (blkOk_by (N := ["_law_line_here", "_law_columns", "_law_parts_here", "_law_names_here", "_law_k", "_law_at", "_law_looked", "_law_first", "_law_second", "_law_steps", "_law_row_keys", "_law_held_keys", "_law_step", "_law_key"]) (sc := defScope s__law_due) (by decide +kernel)) (fun _ _ _ _ _ => pg_name (i := 13) sc__law_due.nd rfl (Or.inl rfl)) (fun _ _ _ _ _ => pts_one (pt_c (inK K) (v_ 13) (v_ 11))) (fun _ _ _ _ _ => (v_ 13))) pa_nil))) (pss_one (ps_ret (pe_tup (pa_cons pe_str (pa_cons (pe_callTy (tupleK K) (by rfl) T.z_tuple (by decide +kernel) (pa_cons (v_ 9) pa_nil)) (pa_cons (v_ 7) (pa_cons (v_ 8) (pa_cons (pe_call c__law_text.G (hr.mono (by first | decide | omega)) rfl c__law_text.m c__law_text.kp c__law_text.b .nil pass0 (pa_cons (v_ 9) (pa_cons (v_ 10) (pa_cons (v_ 11) pa_nil)))) pa_nil))))))))))))))))), ?_⟩
  refine .inl ⟨_, .inl (SqL.of hp), _, rfl, by omega, by rw [List.length_map]; omega, ?_⟩
  rw [List.length_map]
  refine for_range (lo := 0) (n := zs.length) (fun i σ' H' => (∃ y, σ' = [some (.str line), some (.ref cl), some (.ref p), some (.ref n), y, none, none, none, none, none, none, none, none, none]) ∧ Same H H' ∧ ∀ (j : Nat) (y : Str), j < i → zs[j]? = some y → y ∉ strangeL) ⟨⟨_, rfl⟩, Same.refl _, fun j _ h => absurd h (Nat.not_lt_zero j)⟩ ?_ ?_
  · rintro i σ' H1 hi ⟨⟨y, rfl⟩, sm, ok⟩
    obtain ⟨z, hzi⟩ : ∃ z, zs[i]? = some z := ⟨zs[i], List.getElem?_eq_getElem hi⟩
    have ezi : atI (zs.map V.str) (0 + (i : Int)) = some (.str z) := by rw [Int.zero_add]; exact atI_nat (by rw [List.getElem?_map, hzi]; rfl)
    refine ⟨_, .inl (SqL.of (sm _ _ hp)), _, ezi, rfl, fun H2 w s2 nw hw => ?_⟩
    have s12 := sm.trans s2
    refine ⟨_, .inl (SqL.of hw), rfl, flat_strs, ?_⟩
    refine ite2 (fun c => ?_) (fun c => ?_)
    · have c : z ∈ strangeL := of_decide_eq_true (inV_str.symm.trans c)
      rcases due with ⟨k, w2, col, e1, e2, e3, e4, rfl⟩ | ⟨d1, _⟩
      · have ki : k = i := by
          by_cases h1 : k < i
          · exact absurd e2 (ok k w2 h1 e1)
          · by_cases h2 : i < k
            · exact absurd c (e3 i z h2 hzi)
            · omega
        subst ki
        have ec : atI (cs.map colV) (0 + (k : Int)) = some (.int (col : Int)) := by rw [Int.zero_add]; exact atI_nat (by rw [List.getElem?_map, e4]; rfl)
        refine ⟨(by show 3 ≤ sizeLine; decide), fun u nu => ?_⟩
        have s3 := same_new (o := .tup [.bl true, .bl false, .bl true]) nu
        refine ⟨_, .inl (SqL.of (s3 _ _ (s12 _ _ hc))), _, ec, (by show 2 ≤ sizeLine; decide), fun v nv => ?_⟩
        have s4 := same_new (o := .tup [.int 1, .int (col : Int)]) nv
        refine ⟨(by show 3 ≤ sizeLine; decide), fun t nt => ?_⟩
        have s5 := same_new (o := .tup [.str "refused", .ref u, .ref v]) nt
        exact q _ t (((s12.trans s3).trans s4).trans s5) ⟨u, v, upd_same, s5 _ _ (s4 _ _ upd_same), s5 _ _ upd_same⟩
      · exact absurd c (d1 z (List.mem_of_getElem? hzi))
    · have c : z ∉ strangeL := fun h => c (inV_str.trans (decide_eq_true h))
      refine ⟨⟨_, rfl⟩, s12, fun j y hj e => ?_⟩
      by_cases h : j = i
      · rw [h, hzi] at e
        cases e
        exact c
      · exact ok j y (by omega) e
  rintro σ' H1 ⟨⟨y, rfl⟩, sm, ok⟩
  have due : (∃ i, Stuck isName zs i ∧ o = .bad (colN cs i ((line.length : Int) + 1)) ∧ (i < zs.length → i < cs.length) ∧ (zs.length ≤ i → cs.length ≤ i)) ∨ ∃ c, goT isName zs zs.length = some c ∧ okEnd c.g = true ∧ o = ofAcc c := by
    rcases due with ⟨k, w2, col, e1, e2, _⟩ | ⟨_, d2⟩
    · exact absurd e2 (ok k w2 (List.getElem?_eq_some_iff.mp e1).1 e1)
    · exact d2
  have hp1 := sm _ _ hp
  refine ⟨p, n, zs, ns, rfl, hp1, sm _ _ hn, hin, by omega, fun i st H2 s2 => ?_, fun c gc oc H2 s2 => ?_⟩
  · have s12 := sm.trans s2
    rcases due with ⟨j, st2, rfl, b1, b2⟩ | ⟨c, g, ok2, rfl⟩
    · have ij := stuck_one st st2
      subst ij
      refine .inl ⟨_, .inl (SqL.of (s12 _ _ hp)), ?_⟩
      rw [List.length_map]
      refine ite2 (fun c => ?_) (fun c => ?_)
      · have c : (i : Int) = zs.length := of_decide_eq_true c
        have e : colN cs i ((line.length : Int) + 1) = (line.length : Int) + 1 := by
          unfold colN
          rw [List.getElem?_eq_none (b2 (by omega))]
          rfl
        rw [e] at q
        refine ⟨(by show 3 ≤ sizeLine; decide), fun u nu => ?_⟩
        have s3 := same_new (o := .tup [.bl true, .bl false, .bl true]) nu
        refine ⟨line_of (by omega), (by show 2 ≤ sizeLine; decide), fun v nv => ?_⟩
        have s4 := same_new (o := .tup [.int 1, .int ((line.length : Int) + 1)]) nv
        refine ⟨(by show 3 ≤ sizeLine; decide), fun t nt => ?_⟩
        have s5 := same_new (o := .tup [.str "refused", .ref u, .ref v]) nt
        exact q _ t (((s12.trans s3).trans s4).trans s5) ⟨u, v, upd_same, s5 _ _ (s4 _ _ upd_same), s5 _ _ upd_same⟩
      · have c : ¬ (i : Int) = zs.length := of_decide_eq_false (Bool.eq_false_iff.mpr c)
        have il : i < zs.length := by
          have := stuck_lt st (j := i) (a := Classical.choose st) (Classical.choose_spec st).1
          obtain ⟨_, _, h | ⟨z, h, _⟩⟩ := st
          · exact absurd h.1 (by omega)
          · exact (List.getElem?_eq_some_iff.mp h).1
        obtain ⟨col, ecl⟩ : ∃ c, cs[i]? = some c := ⟨_, List.getElem?_eq_getElem (b1 il)⟩
        have e : colN cs i ((line.length : Int) + 1) = (col : Int) := by
          unfold colN
          rw [ecl]
          rfl
        rw [e] at q
        have ec : atI (cs.map colV) (i : Int) = some (.int (col : Int)) := atI_nat (by rw [List.getElem?_map, ecl]; rfl)
        refine ⟨(by show 3 ≤ sizeLine; decide), fun u nu => ?_⟩
        have s3 := same_new (o := .tup [.bl true, .bl false, .bl true]) nu
        refine ⟨_, .inl (SqL.of (s3 _ _ (s12 _ _ hc))), _, ec, (by show 2 ≤ sizeLine; decide), fun v nv => ?_⟩
        have s4 := same_new (o := .tup [.int 1, .int (col : Int)]) nv
        refine ⟨(by show 3 ≤ sizeLine; decide), fun t nt => ?_⟩
        have s5 := same_new (o := .tup [.str "refused", .ref u, .ref v]) nt
        exact q _ t (((s12.trans s3).trans s4).trans s5) ⟨u, v, upd_same, s5 _ _ (s4 _ _ upd_same), s5 _ _ upd_same⟩
    · have := stuck_ok st g
      rw [ok2] at this
      cases this
  · have s12 := sm.trans s2
    rcases due with ⟨j, st2, rfl, b1, b2⟩ | ⟨c2, g2, ok2, rfl⟩
    · have := stuck_ok st2 gc
      rw [oc] at this
      cases this
    rw [gc] at g2
    cases g2
    obtain ⟨_, a2, a3, a4, a5⟩ := go_ok gc
    refine .inl ⟨_, .inl (SqL.of (s12 _ _ hp)), ?_⟩
    rw [List.length_map]
    refine ⟨p, zs, c, rfl, s12 _ _ hp, by omega, gc, oc, fun H3 t R L M s3 ht hR hL hM => ?_⟩
    have s13 := s12.trans s3
    obtain ⟨us, hR, hus⟩ := hR
    refine ⟨t, _, rfl, SqT.of ht, rfl, _, _, rfl, _, _, rfl, _, _, rfl, rfl, ?_⟩
    have nps : c.ps ≠ [] := go_ne gc (fun h => by rw [h] at oc; cases oc) (fun h => by rw [h] at oc; cases oc)
    refine ⟨R, L, M, c.ps, c.l, c.k, rfl, ⟨us, hR, hus⟩, hL, hM, by omega, by omega, by omega, nps, fun s hs => (a2 s hs).1, fun H4 s4 => ?_⟩
    have s14 := s13.trans s4
    unfold ofAcc at q
    refine ite2 (fun f => ?_) (fun f => ?_)
    · have f : ¬ planFits c.ps c.l c.k = true := by
        have f : (!planFits c.ps c.l c.k) = true := f
        simpa using f
      rw [if_neg f] at q
      refine ⟨(by show 3 ≤ sizeLine; decide), fun u nu => ⟨(by show 3 ≤ sizeLine; decide), fun t nt => ?_⟩⟩
      have s5 := same_new (o := .tup [.bl false, .bl true, .bl true]) nu
      have s6 := same_new (o := .tup [.str "refused", .ref u, .non]) nt
      exact q _ t ((s14.trans s5).trans s6) ⟨u, upd_same, s6 _ _ upd_same⟩
    have f : planFits c.ps c.l c.k = true := by
      have f : ¬ (!planFits c.ps c.l c.k) = true := f
      simpa using f
    rw [if_pos f] at q
    have hR4 := s4 _ _ hR
    have hus4 := pairs_same hus s4
    have hL4 := s4 _ _ hL
    have hM4 := s4 _ _ hM
    have vl := pairs_len hus4
    clear hR hus hL hM s3 s4 s13 ht
    refine ⟨R, rfl, ⟨_, SqL.of hR4⟩, fun D nD => ?_⟩
    refine lc_it (walk_list (xs := us)) (PvP H4 D (keepF c.ps (fun p => decide (p.1 = ("look" : Str))) fun p => .str p.2)) (pvp_start nD rfl) (fun _ _ _ h => SqL.of (h.1 _ _ hR4)) ?_ ?_
    · rintro i v H5 H6 hi pv ⟨rfl, hv⟩
      obtain ⟨⟨d, z⟩, e, r, rfl, hr⟩ := pairs_at (pairs_same hus4 pv.1) hv
      refine ⟨rfl, ?_⟩
      refine ⟨_, .inr hr, .str d, rfl, ?_⟩
      refine ite2 (fun c => ?_) (fun c => ?_)
      · exact ⟨_, .inr hr, .str z, rfl, pvp_put nD pv (Same.refl _) (keepF_put e c) (Nat.lt_of_le_of_lt keepF_len (by omega))⟩
      · exact pvp_skip pv (Same.refl _) (keepF_skip e c)
    rintro H5 ⟨s5, hD⟩
    rw [keepF_all vl] at hD
    have hD : H5 D = some (.lst ((looked c.ps).map V.str)) := by
      rw [hD]
      unfold looked
      rw [List.map_map]
      rfl
    have lk64 : (looked c.ps).length < 64 := Nat.lt_of_le_of_lt looked_len (by omega)
    refine ⟨D, rfl, ⟨_, SqL.of hD⟩, fun D1 nD1 => ?_⟩
    refine lc_it (walk_list (xs := (looked c.ps).map V.str)) (PvP H5 D1 (keepF (looked c.ps) (fun z => decide (z ∈ c.l)) V.str)) (pvp_start nD1 rfl) (fun _ _ _ h => SqL.of (h.1 _ _ hD)) ?_ ?_
    · rintro i v H6 H7 hi pv ⟨rfl, hv⟩
      rw [List.getElem?_map] at hv
      obtain ⟨z, e, rfl⟩ := Option.map_eq_some_iff.mp hv
      refine ⟨rfl, ?_⟩
      refine ⟨_, .inl (SqL.of (pv.1 _ _ (s5 _ _ hL4))), rfl, flat_strs, ?_⟩
      refine ite2 (fun c => ?_) (fun c => ?_)
      · exact pvp_put nD1 pv (Same.refl _) (keepF_put e (inV_str.symm.trans c)) (Nat.lt_of_le_of_lt keepF_len (by omega))
      · exact pvp_skip pv (Same.refl _) (keepF_skip e fun h => c (inV_str.trans h))
    rintro H6 ⟨s6, hD1⟩
    rw [keepF_all (by rw [List.length_map])] at hD1
    refine ⟨D1, _, rfl, .inl ⟨SqL.of hD1, fun w1 nw1 => ?_⟩⟩
    have s7 := same_new (o := .tup (((looked c.ps).filter fun z => decide (z ∈ c.l)).map V.str)) nw1
    have hw1 : TxT K (upd H6 w1 (.tup (((looked c.ps).filter fun z => decide (z ∈ c.l)).map V.str))) w1 (among c.ps c.l) := SqT.of upd_same
    have s57 := s6.trans s7
    generalize upd H6 w1 (.tup (((looked c.ps).filter fun z => decide (z ∈ c.l)).map V.str)) = H7 at s57 hw1 ⊢
    clear s6 s7 hD1 nD1 nw1
    have hD7 := s57 _ _ hD
    have s47 := s5.trans s57
    refine ⟨D, rfl, ⟨_, SqL.of hD7⟩, fun D2 nD2 => ?_⟩
    refine lc_it (walk_list (xs := (looked c.ps).map V.str)) (PvP H7 D2 (keepF (looked c.ps) (fun z => decide (z ∈ c.k)) V.str)) (pvp_start nD2 rfl) (fun _ _ _ h => SqL.of (h.1 _ _ hD7)) ?_ ?_
    · rintro i v H8 H9 hi pv ⟨rfl, hv⟩
      rw [List.getElem?_map] at hv
      obtain ⟨z, e, rfl⟩ := Option.map_eq_some_iff.mp hv
      refine ⟨rfl, ?_⟩
      refine ⟨_, .inl (SqL.of (pv.1 _ _ (s47 _ _ hM4))), rfl, flat_strs, ?_⟩
      refine ite2 (fun c => ?_) (fun c => ?_)
      · exact pvp_put nD2 pv (Same.refl _) (keepF_put e (inV_str.symm.trans c)) (Nat.lt_of_le_of_lt keepF_len (by omega))
      · exact pvp_skip pv (Same.refl _) (keepF_skip e fun h => c (inV_str.trans h))
    rintro H8 ⟨s8, hD2⟩
    rw [keepF_all (by rw [List.length_map])] at hD2
    refine ⟨D2, _, rfl, .inl ⟨SqL.of hD2, fun w2 nw2 => ?_⟩⟩
    have s9 := same_new (o := .tup (((looked c.ps).filter fun z => decide (z ∈ c.k)).map V.str)) nw2
    have hw2 : TxT K (upd H8 w2 (.tup (((looked c.ps).filter fun z => decide (z ∈ c.k)).map V.str))) w2 (among c.ps c.k) := SqT.of upd_same
    have s79 := s8.trans s9
    have hw1 := SqT.same hw1 s79
    have s49 := s47.trans s79
    generalize upd H8 w2 (.tup (((looked c.ps).filter fun z => decide (z ∈ c.k)).map V.str)) = H9 at s49 hw1 hw2 ⊢
    clear s8 s9 s79 hD2 nD2 nw2 s57 s47 hD7 hD s5 nD
    refine ⟨R, _, rfl, .inl ⟨SqL.of (s49 _ _ hR4), fun w0 nw0 => ?_⟩⟩
    have sa := same_new (o := .tup us) nw0
    have s4a := s49.trans sa
    have hw0 : StT K (upd H9 w0 (.tup us)) w0 c.ps := ⟨us, SqT.of upd_same, pairs_same hus4 s4a⟩
    have hw1 := SqT.same hw1 sa
    have hw2 := SqT.same hw2 sa
    generalize upd H9 w0 (.tup us) = Ha at s4a hw0 hw1 hw2 ⊢
    have f2 : keysFit c.ps c.l = true ∧ keysFit c.ps c.k = true := by
      unfold planFits at f
      rw [Bool.and_eq_true, Bool.and_eq_true] at f
      exact ⟨f.1.2, f.2⟩
    refine ⟨R, L, M, c.ps, c.l, c.k, rfl, ⟨us, s4a _ _ hR4, pairs_same hus4 s4a⟩, s4a _ _ hL4, s4a _ _ hM4, acc_shrt gc (by omega), among_ne f2.1, among_ne f2.2, fun Hb sb => ?_⟩
    refine ⟨(by show 5 ≤ sizeLine; decide), fun t nt => ?_⟩
    have sc := same_new (o := .tup [.str "made", .ref w0, .ref w1, .ref w2, .str (txt c.ps (among c.ps c.l) (among c.ps c.k))]) nt
    have sbc := sb.trans sc
    exact q _ t (s14.trans (s4a.trans sbc)) ⟨w0, w1, w2, upd_same, hw0.same sbc, SqT.same hw1 sbc, SqT.same hw2 sbc⟩
end
section
variable {P : Program} {w : World} {K : PySem.W.Frag} {mg : Str → Option Value} {base : Heap}
variable {t_DIGITS t_LETTERS t_LONGEST_NAME : Tok} {a_DEEDS a_MARKS a_RESERVED a_SIGNS a_BadName a_BadPlan a_BadText a_ElseputError a_Plan a_Reader : Addr}
/-! ### good rows: read and laid -/
def tokB (p : List Nat) : Bool := (!p.isEmpty && p.all isL) || (!p.isEmpty && p.all isD) || (match p with | 45 :: r => !r.isEmpty && r.all isD | _ => false) || inSM p
theorem tok_of {p : List Nat} (h : tokB p = true) : Tok p := by
  unfold tokB at h
  rw [Bool.or_eq_true, Bool.or_eq_true, Bool.or_eq_true] at h
  have ne : ∀ {q : List Nat}, (!q.isEmpty) = true → q ≠ [] := fun {q} h e => by rw [e] at h; cases h
  rcases h with ((h | h) | h) | h
  · rw [Bool.and_eq_true] at h
    exact .word (ne h.1) (List.all_eq_true.mp h.2)
  · rw [Bool.and_eq_true] at h
    exact .int (ne h.1) (List.all_eq_true.mp h.2)
  · split at h
    · rw [Bool.and_eq_true] at h
      exact .neg (ne h.1) (List.all_eq_true.mp h.2)
    · cases h
  · exact .sm h
theorem lay_app : ∀ {a b : List (Nat × List Nat)} {t : List Nat}, lay (a ++ b) t = lay a (lay b t)
  | [], _, _ => rfl
  | (g, p) :: r, b, t => by rw [List.cons_append, lay, lay_app, lay]
def goL (ok : Str → Bool) : Acc → List Str → Option Acc
  | a, [] => some a
  | a, z :: r => match nextT ok a z with
    | some b => goL ok b r
    | none => none
theorem goL_app {ok : Str → Bool} : ∀ {xs ys : List Str} {a b : Acc}, goL ok a xs = some b → goL ok a (xs ++ ys) = goL ok b ys
  | [], ys, a, b, h => by cases h; rfl
  | z :: r, ys, a, b, h => by
    show (match nextT ok a z with
      | some b => goL ok b (r ++ ys)
      | none => none) = _
    have h : (match nextT ok a z with
      | some b => goL ok b r
      | none => none) = some b := h
    cases e : nextT ok a z with
    | none => rw [e] at h; cases h
    | some c =>
      rw [e] at h
      exact goL_app h
theorem goT_L {ok : Str → Bool} {ws : List Str} : ∀ n, n ≤ ws.length → goT ok ws n = goL ok ⟨.deed, Str.empty, [], [], []⟩ (ws.take n)
  | 0, _ => rfl
  | n + 1, h => by
    have ih := goT_L (ok := ok) (ws := ws) n (by omega)
    have e : ws[n]? = some ws[n] := List.getElem?_eq_getElem (by omega)
    rw [take_snoc e]
    show (match goT ok ws n, ws[n]? with
      | some a, some z => nextT ok a z
      | _, _ => none) = _
    rw [e]
    cases g : goT ok ws n with
    | none =>
      rw [g] at ih
      have : ∀ {xs : List Str} {a : Acc} {y : Str}, none = goL ok a xs → goL ok a (xs ++ [y]) = none := by
        intro xs
        induction xs with
        | nil => intro a y h; cases h
        | cons z r ih =>
          intro a y h
          show (match nextT ok a z with
            | some b => goL ok b (r ++ [y])
            | none => none) = none
          have h : none = (match nextT ok a z with
            | some b => goL ok b r
            | none => none) := h
          cases e : nextT ok a z with
          | none => rfl
          | some b =>
            rw [e] at h
            exact ih h
      rw [this ih]
    | some a =>
      rw [g] at ih
      rw [goL_app ih.symm]
      show nextT ok a ws[n] = (match nextT ok a ws[n] with
        | some b => goL ok b []
        | none => none)
      cases nextT ok a ws[n] <;> rfl
theorem goL_cons {ok : Str → Bool} {a b : Acc} {z : Str} {r : List Str} (h : nextT ok a z = some b) : goL ok a (z :: r) = goL ok b r := by
  show (match nextT ok a z with
    | some b => goL ok b r
    | none => none) = _
  rw [h]
theorem goL_pw : ∀ {ps : List Stp} {a : Acc}, a.g = .step → (∀ s ∈ ps, s.1 ∈ deeds ∧ isName s.2 = true) → ∃ d, goL isName a (pw ps) = some ⟨.step, d, a.ps ++ ps, a.l, a.k⟩
  | [], a, h, _ => ⟨a.d, by
    show some a = _
    rw [List.append_nil, ← h]⟩
  | (d, z) :: r, a, h, hp => by
    obtain ⟨h1, h2⟩ := hp _ List.mem_cons_self
    obtain ⟨d2, ih⟩ := goL_pw (ps := r) (a := ⟨.step, d, a.ps ++ [(d, z)], a.l, a.k⟩) rfl fun s hs => hp s (List.mem_cons_of_mem _ hs)
    refine ⟨d2, ?_⟩
    show goL isName a ((",":Str) :: d :: z :: pw r) = _
    rw [goL_cons (by rw [nx_step h, if_pos rfl]), goL_cons (by rw [nx_deed rfl, if_pos h1]), goL_cons (by rw [nx_key rfl, if_pos h2]), ih, List.append_assoc]
    rfl
theorem goL_more : ∀ {zs : List Str} {a : Acc}, a.g = .more → (∀ z ∈ zs, isName z = true) → goL isName a zs = some ⟨.more, a.d, a.ps, a.l ++ zs, a.k⟩
  | [], a, h, _ => by
    show some a = _
    rw [List.append_nil, ← h]
  | z :: r, a, h, hz => by
    rw [goL_cons (by rw [nx_more h, if_pos (hz z List.mem_cons_self)]), goL_more rfl fun y hy => hz y (List.mem_cons_of_mem _ hy), List.append_assoc]
    rfl
theorem goL_fin : ∀ {zs : List Str} {a : Acc}, a.g = .fin → (∀ z ∈ zs, isName z = true) → goL isName a zs = some ⟨.fin, a.d, a.ps, a.l, a.k ++ zs⟩
  | [], a, h, _ => by
    show some a = _
    rw [List.append_nil, ← h]
  | z :: r, a, h, hz => by
    rw [goL_cons (by rw [nx_last (.inr h), if_pos (hz z List.mem_cons_self)]), goL_fin rfl fun y hy => hz y (List.mem_cons_of_mem _ hy), List.append_assoc]
    rfl
theorem goL_lock {zs : List Str} {a : Acc} (h : a.g = .step) (hz : ∀ z ∈ zs, isName z = true) : ∃ g, (g = .step ∨ g = .more) ∧ goL isName a (ow "lock" zs) = some ⟨g, a.d, a.ps, a.l ++ zs, a.k⟩ := by
  cases zs with
  | nil =>
    refine ⟨.step, .inl rfl, ?_⟩
    show some a = _
    rw [List.append_nil, ← h]
  | cons z r =>
    refine ⟨.more, .inr rfl, ?_⟩
    show goL isName a ((";":Str) :: ("lock":Str) :: z :: r) = _
    rw [goL_cons (by rw [nx_step h, if_neg lits.2.1, if_pos rfl]), goL_cons (by rw [nx_rows rfl, if_pos rfl]), goL_cons (by rw [nx_first rfl, if_pos (hz z List.mem_cons_self)]), goL_more rfl fun y hy => hz y (List.mem_cons_of_mem _ hy), List.append_assoc]
    rfl
theorem goL_keep {zs : List Str} {a : Acc} (h : a.g = .step ∨ a.g = .more) (hz : ∀ z ∈ zs, isName z = true) : ∃ g, okEnd g = true ∧ goL isName a (ow "keep" zs) = some ⟨g, a.d, a.ps, a.l, a.k ++ zs⟩ := by
  cases zs with
  | nil =>
    refine ⟨a.g, by rcases h with h | h <;> rw [h] <;> rfl, ?_⟩
    show some a = _
    rw [List.append_nil]
  | cons z r =>
    refine ⟨.fin, rfl, ?_⟩
    show goL isName a ((";":Str) :: ("keep":Str) :: z :: r) = _
    have e : ∃ b : Acc, nextT isName a ";" = some b ∧ (b.g = .rows ∨ b.g = .behind) ∧ b.d = a.d ∧ b.ps = a.ps ∧ b.l = a.l ∧ b.k = a.k := by
      rcases h with h | h
      · exact ⟨⟨.rows, a.d, a.ps, a.l, a.k⟩, by rw [nx_step h, if_neg lits.2.1, if_pos rfl], .inl rfl, rfl, rfl, rfl, rfl⟩
      · exact ⟨⟨.behind, a.d, a.ps, a.l, a.k⟩, by rw [nx_more h, if_neg (by rw [lits.2.2.2.2.1]; decide), if_pos rfl], .inr rfl, rfl, rfl, rfl, rfl⟩
    obtain ⟨b, e1, e2, e3, e4, e5, e6⟩ := e
    have e7 : nextT isName b "keep" = some ⟨.last, b.d, b.ps, b.l, b.k⟩ := by
      rcases e2 with h | h
      · rw [nx_rows h, if_neg lits.2.2.1, if_pos rfl]
      · rw [nx_behind h, if_pos rfl]
    rw [goL_cons e1, goL_cons e7, goL_cons (by rw [nx_last (.inl rfl), if_pos (hz z List.mem_cons_self)]), goL_fin rfl fun y hy => hz y (List.mem_cons_of_mem _ hy), e3, e4, e5, e6, List.append_assoc]
    rfl
theorem go_wds {ps : List Stp} {lk kp : List Str} (n : ps ≠ []) (hp : ∀ s ∈ ps, s.1 ∈ deeds ∧ isName s.2 = true) (hl : ∀ z ∈ lk, isName z = true) (hk : ∀ z ∈ kp, isName z = true) : ∃ c, goT isName (wds ps lk kp) (wds ps lk kp).length = some c ∧ okEnd c.g = true ∧ c.ps = ps ∧ c.l = lk ∧ c.k = kp := by
  cases ps with
  | nil => exact absurd rfl n
  | cons p r =>
    obtain ⟨d, z⟩ := p
    obtain ⟨h1, h2⟩ := hp _ List.mem_cons_self
    have e : wds ((d, z) :: r) lk kp = d :: z :: (pw r ++ ow "lock" lk ++ ow "keep" kp) := rfl
    obtain ⟨d2, g1⟩ := goL_pw (ps := r) (a := ⟨.step, d, [(d, z)], [], []⟩) rfl fun s hs => hp s (List.mem_cons_of_mem _ hs)
    obtain ⟨g, hg, g2⟩ := goL_lock (zs := lk) (a := ⟨.step, d2, [(d, z)] ++ r, [], []⟩) rfl hl
    obtain ⟨g', ok, g3⟩ := goL_keep (zs := kp) (a := ⟨g, d2, [(d, z)] ++ r, [] ++ lk, []⟩) hg hk
    refine ⟨⟨g', d2, [(d, z)] ++ r, [] ++ lk, [] ++ kp⟩, ?_, ok, rfl, rfl, rfl⟩
    rw [goT_L _ (Nat.le_refl _), List.take_length, e, goL_cons (by rw [nx_deed rfl, if_pos h1]), goL_cons (by rw [nx_key rfl, if_pos h2])]
    show goL isName ⟨.step, d, [(d, z)], [], []⟩ (pw r ++ ow "lock" lk ++ ow "keep" kp) = _
    rw [List.append_assoc, goL_app g1, goL_app g2, g3]
/-! ### the text as a laid line -/
def NM (z : Str) : Prop := ¬ (z = "," ∨ z = ";")
def g1 (z : Str) : Nat × List Nat := (if z = "," ∨ z = ";" then 0 else 1, z.cps.toList)
def lg (zs : List Str) : List Nat := lay (zs.map g1) []
theorem lg_app {a b : List Str} : lg (a ++ b) = lg a ++ lg b := by
  unfold lg
  rw [List.map_append, lay_app, lay_tail]
theorem lg_nm {z : Str} (h : NM z) : lg [z] = 32 :: z.cps.toList := by
  unfold lg g1
  show List.replicate (if z = "," ∨ z = ";" then 0 else 1) 32 ++ (z.cps.toList ++ []) = _
  rw [if_neg h, List.append_nil]
  rfl
theorem lg_m {z : Str} (h : z = "," ∨ z = ";") : lg [z] = z.cps.toList := by
  unfold lg g1
  show List.replicate (if z = "," ∨ z = ";" then 0 else 1) 32 ++ (z.cps.toList ++ []) = _
  rw [if_pos h, List.append_nil]
  rfl
theorem sp_cps : (" " : Str).cps.toList = [32] ∧ (", " : Str).cps.toList = ("," : Str).cps.toList ++ [32] ∧ ("; " : Str).cps.toList = (";" : Str).cps.toList ++ [32] := by decide +kernel
def G (zs : List Str) : List (Nat × List Nat) := match zs with
  | [] => []
  | z :: r => (0, z.cps.toList) :: r.map g1
theorem lg_cons {z : Str} {r : List Str} : lg (z :: r) = lg [z] ++ lg r := lg_app (a := [z])
theorem jst_lay : ∀ {r : List Stp} {p : Stp}, NM p.2 → (∀ s ∈ r, NM s.1 ∧ NM s.2) → (jst (p :: r)).cps.toList = p.1.cps.toList ++ (lg [p.2] ++ lg (pw r))
  | [], p, h, _ => by
    show (p.1 ++ " " ++ p.2).cps.toList = _
    rw [cps_add, cps_add, sp_cps.1, lg_nm h, List.append_assoc]
    show _ = p.1.cps.toList ++ ((32 :: p.2.cps.toList) ++ [])
    rw [List.append_nil]
    rfl
  | q :: r, p, h, hr => by
    obtain ⟨h1, h2⟩ := hr q List.mem_cons_self
    have ih := jst_lay (r := r) (p := q) h2 fun s hs => hr s (List.mem_cons_of_mem _ hs)
    show (p.1 ++ " " ++ p.2 ++ ", " ++ jst (q :: r)).cps.toList = _
    rw [cps_add, cps_add, cps_add, cps_add, ih, sp_cps.1, sp_cps.2.1, show pw (q :: r) = ("," : Str) :: q.1 :: q.2 :: pw r from rfl, lg_cons (z := ","), lg_m (.inl rfl), lg_cons (z := q.1), lg_nm h1, lg_cons (z := q.2) (r := pw r), lg_nm h]
    simp only [List.append_assoc, List.cons_append, List.nil_append]
theorem jsp_lay : ∀ {zs : List Str}, zs ≠ [] → (∀ z ∈ zs, NM z) → 32 :: (Str.join " " zs).cps.toList = lg zs
  | [], h, _ => absurd rfl h
  | [z], _, h => (lg_nm (h z List.mem_cons_self)).symm
  | z :: y :: r, _, h => by
    have ih := jsp_lay (zs := y :: r) (fun h => nomatch h) fun x hx => h x (List.mem_cons_of_mem _ hx)
    show 32 :: (z ++ " " ++ Str.join " " (y :: r)).cps.toList = _
    rw [cps_add, cps_add, sp_cps.1, lg_cons (z := z), lg_nm (h z List.mem_cons_self), ← ih]
    simp only [List.append_assoc, List.cons_append, List.nil_append]
theorem wtx_lay {w : Str} {zs : List Str} (hw : NM w) (h : ∀ z ∈ zs, NM z) : (wtx w zs).cps.toList = lg (ow w zs) := by
  cases zs with
  | nil => rfl
  | cons z r =>
    show ("; " ++ (w ++ (" " ++ Str.join " " (z :: r)))).cps.toList = lg ((";":Str) :: w :: z :: r)
    rw [cps_add, cps_add, cps_add, sp_cps.1, sp_cps.2.2, lg_cons (z := ";"), lg_m (.inr rfl), lg_cons (z := w), lg_nm hw, ← jsp_lay (zs := z :: r) (fun h => nomatch h) h]
    simp only [List.append_assoc, List.cons_append, List.nil_append]
theorem ap_map : ∀ {r : List Str} {g : Nat} {p : List Nat}, (∀ z ∈ r, z.cps.toList ≠ []) → Apart ((g, p) :: r.map g1)
  | [], _, _, _ => trivial
  | z :: r, g, p, h => by
    refine ⟨fun e => ?_, h z List.mem_cons_self, ap_map fun y hy => h y (List.mem_cons_of_mem _ hy)⟩
    have e : (if z = "," ∨ z = ";" then 0 else 1) = 0 := e
    by_cases c : z = "," ∨ z = ";"
    · refine touch_m2 ?_
      rcases c with c | c
      · exact .inl (by rw [c]; decide +kernel)
      · exact .inr (by rw [c]; decide +kernel)
    · rw [if_neg c] at e
      cases e
theorem txt_laid {ps : List Stp} {lk kp : List Str} (n : ps ≠ []) (hp : ∀ s ∈ ps, NM s.1 ∧ NM s.2) (hl : ∀ z ∈ lk, NM z) (hk : ∀ z ∈ kp, NM z) (hne : ∀ z ∈ wds ps lk kp, z.cps.toList ≠ []) (hs : Shrt ps lk kp) : ∃ cs, Laid (wds ps lk kp) cs (txt ps lk kp) := by
  refine ⟨cols (1 + 0) (G (wds ps lk kp)), 0, 0, G (wds ps lk kp), rfl, ?_, ?_, ?_, by have := txt_len hs; omega⟩
  · cases wds ps lk kp with
    | nil => rfl
    | cons z r =>
      show z.cps.toList :: (r.map g1).map (·.2) = z.cps.toList :: r.map _
      rw [List.map_map]
      rfl
  · cases e : wds ps lk kp with
    | nil => trivial
    | cons z r =>
      rw [e] at hne
      exact ap_map fun y hy => hne y (List.mem_cons_of_mem _ hy)
  · cases ps with
    | nil => exact absurd rfl n
    | cons p r =>
      have hq := hp p List.mem_cons_self
      show (jst (p :: r) ++ wtx "lock" lk ++ wtx "keep" kp).cps.toList = [] ++ lay ((0, p.1.cps.toList) :: (p.2 :: (pw r ++ ow "lock" lk ++ ow "keep" kp)).map g1) []
      rw [cps_add, cps_add, jst_lay hq.2 fun s hs => hp s (List.mem_cons_of_mem _ hs), wtx_lay (by unfold NM; decide +kernel) hl, wtx_lay (by unfold NM; decide +kernel) hk]
      show _ = [] ++ (List.replicate 0 32 ++ (p.1.cps.toList ++ lg (p.2 :: (pw r ++ ow "lock" lk ++ ow "keep" kp))))
      rw [lg_cons (z := p.2) (r := pw r ++ ow "lock" lk ++ ow "keep" kp), lg_app, lg_app]
      simp only [List.append_assoc, List.replicate, List.nil_append]
end
section
variable {P : Program} {w : World} {K : PySem.W.Frag} {mg : Str → Option Value} {base : Heap}
variable {t_DIGITS t_LETTERS t_LONGEST_NAME : Tok} {a_DEEDS a_MARKS a_RESERVED a_SIGNS a_BadName a_BadPlan a_BadText a_ElseputError a_Plan a_Reader : Addr}
/-! ### rows that are bent -/
structure Rws (K : PySem.W.Frag) (H : Hp) (st : Addr) (ns : List Str) (R L M : Addr) (ps : List Stp) (lk kp : List Str) : Prop where
  n1 : R ≠ st
  n2 : L ≠ st
  n3 : M ≠ st
  r : ∃ us, H R = some (.lst us) ∧ PairsIn K H us ps
  l : H L = some (.lst (lk.map V.str))
  m : H M = some (.lst (kp.map V.str))
  o1 : ∀ s ∈ ps, s.1 ∈ deeds ∧ s.2 ∈ ns
  o2 : ∀ z ∈ lk, z ∈ ns
  o3 : ∀ z ∈ kp, z ∈ ns
theorem Rws.bt {K : PySem.W.Frag} {H H' : Hp} {st : Addr} {ns : List Str} {R L M : Addr} {ps : List Stp} {lk kp : List Str} (h : Rws K H st ns R L M ps lk kp) (hs : ∃ l, H st = some (.lst l)) (b : Bt st H H') : Rws K H' st ns R L M ps lk kp :=
  ⟨h.n1, h.n2, h.n3, stL_bt h.r h.n1 hs b, b _ _ h.n2 h.l, b _ _ h.n3 h.m, h.o1, h.o2, h.o3⟩
def tot (ps : List Stp) (lk kp : List Str) : Nat := 3 * ps.length + lk.length + kp.length
def sp__law_bent_rows (K : PySem.W.Frag) : Sp := fun vs H Q _ => ∃ (st scr t n R L M : Addr) (ps : List Stp) (lk kp ns : List Str), vs = [.ref st, .ref t, .ref n] ∧ DrAt H st scr ∧ SqT K H t [.ref R, .ref L, .ref M] ∧ H n = some (.lst (ns.map V.str)) ∧ n ≠ st ∧ 0 < ns.length ∧ ns.length ≤ 20 ∧
  Rws K H st ns R L M ps lk kp ∧ tot ps lk kp ≤ 50 ∧
  ∀ (H' : Hp) (t' R' L' M' : Addr) (ps' : List Stp) (lk' kp' : List Str), Bt st H H' → DrAt H' st scr → SqT K H' t' [.ref R', .ref L', .ref M'] → Rws K H' st ns R' L' M' ps' lk' kp' → tot ps' lk' kp' ≤ tot ps lk kp + 3 → Q (.ref t') H'
theorem len__law_bent_rows {vs : List V} {H : Hp} {Q : VK} {E : XK} (h : sp__law_bent_rows K vs H Q E) : vs.length = 3 := by
  obtain ⟨_, _, _, _, _, _, _, _, _, _, _, rfl, _⟩ := h
  rfl
theorem pairs_drop {K : PySem.W.Frag} {H : Hp} {vs : List V} {ps : List Stp} (h : PairsIn K H vs ps) : ∀ n, PairsIn K H (vs.drop n) (ps.drop n) := by
  induction h with
  | nil => intro n; rw [List.drop_nil, List.drop_nil]; exact .nil
  | cons a b ih =>
    intro n
    cases n with
    | zero => exact .cons a b
    | succ n => exact ih n
theorem pairs_app {K : PySem.W.Frag} {H : Hp} {vs us : List V} {ps qs : List Stp} (h : PairsIn K H vs ps) (g : PairsIn K H us qs) : PairsIn K H (vs ++ us) (ps ++ qs) := by
  induction h with
  | nil => exact g
  | cons a _ ih => exact .cons a ih
theorem ok__law_bent_rows {f : Addr} {fd : FuncData} {f__law_draw : Addr} {fd__law_draw : FuncData} {f__law_pick : Addr} {fd__law_pick : FuncData} (F : Fun K "_law_bent_rows" "_law_bent_rows" s__law_bent_rows f fd) (T : Gs K mg t_DIGITS t_LETTERS t_LONGEST_NAME a_DEEDS a_MARKS a_RESERVED a_SIGNS a_BadName a_BadPlan a_BadText a_ElseputError a_Plan a_Reader) (c__law_draw : Cal P w K mg base CX0 1 "_law_draw" f__law_draw fd__law_draw ["_law_state_here", "_law_many"] (sp__law_draw K)) (c__law_pick : Cal P w K mg base CX0 2 "_law_pick" f__law_pick fd__law_pick ["_law_state_here", "_law_row"] (sp__law_pick K)) : FnOk P w K mg base CX0 3 f fd ["_law_state_here", "_law_rows", "_law_names_here"] (sp__law_bent_rows K) := by
  refine F.ok sc__law_bent_rows (fun vs H Q E h => len__law_bent_rows h) (fun cdv A outer s H vs Q E hr h => ?_)
  obtain ⟨st, scr, t, n, R, L, M, ps, lk, kp, ns, rfl, hd, ht, hn, ne, n0, n20, B, lt, q⟩ := h
  have lt : 3 * ps.length + lk.length + kp.length ≤ 50 := lt
  refine ⟨_, (pss_cons (ps_asg (v_ 1) (pg_tup (by rfl) (pgs_cons (pg_name (i := 6) sc__law_bent_rows.nd rfl (.inl rfl)) (pgs_cons (pg_name (i := 7) sc__law_bent_rows.nd rfl (.inl rfl)) (pgs_cons (pg_name (i := 8) sc__law_bent_rows.nd rfl (.inl rfl)) pgs_nil))))) (pss_cons (ps_set (i := 3) sc__law_bent_rows.nd rfl (.inl rfl) (pe_call c__law_draw.G (hr.mono (by first | decide | omega)) rfl c__law_draw.m c__law_draw.kp c__law_draw.b .nil pass0 (pa_cons (v_ 0) (pa_cons pe_int pa_nil)))) (pss_cons (ps_set (i := 4) sc__law_bent_rows.nd rfl (.inl rfl) (pe_call c__law_draw.G (hr.mono (by first | decide | omega)) rfl c__law_draw.m c__law_draw.kp c__law_draw.b .nil pass0 (pa_cons (v_ 0) (pa_cons (pe_op (addK K) (pe_callB (lenK K) (by rfl) T.z_len PySem.boot_len (pa_cons (v_ 6) pa_nil)) pe_int) pa_nil)))) (pss_cons (ps_set (i := 5) sc__law_bent_rows.nd rfl (.inl rfl) (pe_call c__law_pick.G (hr.mono (by first | decide | omega)) rfl c__law_pick.m c__law_pick.kp c__law_pick.b .nil pass0 (pa_cons (v_ 0) (pa_cons (v_ 2) pa_nil)))) (pss_cons (ps_if (pt_c (eqK K hr.units) (v_ 3) pe_int) (pss_one (ps_ret (pe_tup (pa_cons (pe_op (addK K) (pe_op (addK K) (pe_slice (slK K) (v_ 6) po_none (po_some (v_ 4))) (pe_lst (pa_cons (pe_tup (pa_cons (pe_call c__law_pick.G (hr.mono (by first | decide | omega)) rfl c__law_pick.m c__law_pick.kp c__law_pick.b .nil pass0 (pa_cons (v_ 0) (pa_cons (pe_lst (pa_cons pe_str (pa_cons pe_str (pa_cons pe_str pa_nil)))) pa_nil))) (pa_cons (v_ 5) pa_nil))) pa_nil))) (pe_slice (slK K) (v_ 6) (po_some (v_ 4)) po_none)) (pa_cons (v_ 7) (pa_cons (v_ 8) pa_nil)))))) pss_nil) (pss_cons (ps_if (pt_c (eqK K hr.units) (v_ 3) pe_int) (pss_one (ps_ret (pe_tup (pa_cons (v_ 6) (pa_cons (pe_op (addK K) (v_ 7) (pe_lst (pa_cons (v_ 5) pa_nil))) (pa_cons (v_ 8) pa_nil)))))) pss_nil) (pss_cons (ps_if (pt_c (eqK K hr.units) (v_ 3) pe_int) (pss_one (ps_ret (pe_tup (pa_cons (v_ 6) (pa_cons (v_ 7) (pa_cons (pe_op (addK K) (pe_lst (pa_cons (v_ 5) pa_nil)) (v_ 8)) pa_nil)))))) pss_nil) (pss_one (ps_ret (v_ 1)))))))))), ?_⟩
  refine ⟨t, _, rfl, ht, rfl, _, _, rfl, _, _, rfl, _, _, rfl, rfl, ?_⟩
  have hs : ∃ l, H st = some (.lst l) := hd.lst
  refine ⟨st, scr, 6, rfl, hd, by decide, many_small (by decide) (by decide), fun kind l1 k0 k1 d1 => ?_⟩
  have b1 : Bt st H (upd H st (.lst l1)) := Bt.st
  generalize upd H st (.lst l1) = H1 at d1 b1 ⊢
  have B1 := B.bt hs b1
  obtain ⟨us, hR, hp⟩ := B1.r
  have ul := pairs_len hp
  refine .inl ⟨_, .inl (SqL.of hR), ?_⟩
  refine ⟨st, scr, _, rfl, d1, by omega, many_small (by omega) (by omega), fun at_ l2 a0 a1 d2 => ?_⟩
  have b2 := b1.trans (Bt.st (st := st) (o := .lst l2))
  generalize upd H1 st (.lst l2) = H2 at d2 b2 ⊢
  refine ⟨st, scr, _, rfl, d2, .inr ⟨n, _, rfl, b2 _ _ ne hn, ne, by rw [List.length_map]; exact n0, by rw [List.length_map]; omega, fun x l3 hx d3 => ?_⟩⟩
  obtain ⟨it, hit, rfl⟩ := List.mem_map.mp hx
  have b3 := b2.trans (Bt.st (st := st) (o := .lst l3))
  generalize upd H2 st (.lst l3) = H3 at d3 b3 ⊢
  clear hx d1 b1 hR hp d2 b2
  have B3 := B.bt hs b3
  -- a step more
  refine ite2 (fun c => ?_) (fun c => ?_)
  · obtain ⟨vs, hR, hp⟩ := B3.r
    have vl := pairs_len hp
    refine ⟨at_, rfl, .inl ⟨_, SqL.of hR, fun p1 m1 => ?_⟩⟩
    rw [cutV_take _ a0]
    have q1 := same_new (o := .lst (vs.take at_.toNat)) m1
    have p1s : p1 ≠ st := d3.ne_new m1
    refine ⟨(by show 3 ≤ sizeLine; decide), fun w mw => ?_⟩
    have q2 := same_new (o := .lst [.str "free", .str "look", .str "take"]) mw
    have dw := d3.new (q1.trans q2)
    refine ⟨st, scr, _, rfl, dw, .inr ⟨w, _, rfl, upd_same, (d3.new q1).ne_new mw, by decide, by decide, fun x l4 hx d4 => ?_⟩⟩
    have hx : x ∈ (["free", "look", "take"] : List Str).map V.str := hx
    obtain ⟨dd, hdd, rfl⟩ := List.mem_map.mp hx
    have hdd2 : dd ∈ deeds := by
      have all : ∀ d ∈ (["free", "look", "take"] : List Str), d ∈ deeds := by decide +kernel
      exact all dd hdd
    have b4 := (b3.trans (Bt.same (st := st) (q1.trans q2))).trans (Bt.st (st := st) (o := .lst l4))
    have e1 : (upd (upd (upd H3 p1 (.lst (vs.take at_.toNat))) w (.lst [.str "free", .str "look", .str "take"])) st (.lst l4)) p1 = some (.lst (vs.take at_.toNat)) := by rw [upd_ne p1s]; exact q2 _ _ upd_same
    have hR4 : (upd (upd (upd H3 p1 (.lst (vs.take at_.toNat))) w (.lst [.str "free", .str "look", .str "take"])) st (.lst l4)) R = some (.lst vs) := by rw [upd_ne B.n1]; exact q2 _ _ (q1 _ _ hR)
    have hp4 : PairsIn K (upd (upd (upd H3 p1 (.lst (vs.take at_.toNat))) w (.lst [.str "free", .str "look", .str "take"])) st (.lst l4)) vs ps := pairs_bt (pairs_same hp (q1.trans q2)) (NT.lst dw.lst) Bt.st
    generalize upd (upd (upd H3 p1 (.lst (vs.take at_.toNat))) w (.lst [.str "free", .str "look", .str "take"])) st (.lst l4) = H4 at d4 b4 e1 hR4 hp4 ⊢
    have B4 := B.bt hs b4
    clear q1 q2 dw m1 mw
    refine ⟨(by show 2 ≤ sizeLine; decide), fun T nT => ?_⟩
    have q2 := same_new (o := .tup [.str dd, .str it]) nT
    refine ⟨(by show 1 ≤ sizeLine; decide), fun p2 n2 => ?_⟩
    have q3 := same_new (o := .lst [.ref T]) n2
    refine .inl ⟨_, _, q3 _ _ (q2 _ _ e1), upd_same, line_of (by rw [List.length_take, List.length_singleton]; omega), fun p3 n3 => ?_⟩
    have q4 := same_new (o := .lst (vs.take at_.toNat ++ [.ref T])) n3
    have q14 := (q2.trans q3).trans q4
    refine ⟨at_, rfl, .inl ⟨_, SqL.of (q14 _ _ hR4), fun p4 n4 => ?_⟩⟩
    rw [cutV_drop _ a0]
    have q5 := same_new (o := .lst (vs.drop at_.toNat)) n4
    refine .inl ⟨_, _, q5 _ _ upd_same, upd_same, line_of (by rw [List.length_append, List.length_take, List.length_drop, List.length_singleton]; omega), fun p5 n5 => ?_⟩
    have q6 := same_new (o := .lst (vs.take at_.toNat ++ [.ref T] ++ vs.drop at_.toNat)) n5
    refine ⟨(by show 3 ≤ sizeLine; decide), fun u nu => ?_⟩
    have q7 := same_new (o := .tup [.ref p5, .ref L, .ref M]) nu
    have sx := ((q14.trans q5).trans q6).trans q7
    have eT := q7 _ _ (q6 _ _ (q5 _ _ (q4 _ _ (q3 _ _ (upd_same (H := H4) (a := T) (o := .tup [.str dd, .str it]))))))
    have b6 := b4.trans (Bt.same (st := st) sx)
    have B6 := B.bt hs b6
    have P := pairs_app (pairs_snoc (pairs_same (pairs_take hp4 at_.toNat) sx) (show PairAt K _ (.ref T) (dd, it) from ⟨T, rfl, SqT.of eT⟩)) (pairs_same (pairs_drop hp4 at_.toNat) sx)
    refine q _ u p5 L M _ lk kp b6 (d4.new sx) (SqT.of upd_same) ⟨d4.ne_new (Same.free (q14.trans q5) n5), B.n2, B.n3, ⟨_, q7 _ _ upd_same, P⟩, B6.l, B6.m, fun s hs => ?_, B.o2, B.o3⟩ ?_
    · rcases List.mem_append.mp hs with h | h
      · rcases List.mem_append.mp h with h | h
        · exact B.o1 s (List.mem_of_mem_take h)
        · rw [List.mem_singleton.mp h]
          exact ⟨hdd2, hit⟩
      · exact B.o1 s (List.mem_of_mem_drop h)
    · unfold tot
      rw [List.length_append, List.length_append, List.length_take, List.length_drop, List.length_singleton]
      omega
  -- a key more
  refine ite2 (fun c => ?_) (fun c => ?_)
  · refine ⟨(by show 1 ≤ sizeLine; decide), fun p2 n2 => ?_⟩
    have q2 := same_new (o := .lst [.str it]) n2
    refine .inl ⟨_, _, q2 _ _ B3.l, upd_same, line_of (by rw [List.length_map, List.length_singleton]; omega), fun p3 n3 => ?_⟩
    have q3 := same_new (o := .lst (lk.map V.str ++ [.str it])) n3
    refine ⟨(by show 3 ≤ sizeLine; decide), fun u nu => ?_⟩
    have q4 := same_new (o := .tup [.ref R, .ref p3, .ref M]) nu
    have sx := (q2.trans q3).trans q4
    have b6 := b3.trans (Bt.same (st := st) sx)
    have B6 := B.bt hs b6
    refine q _ u R p3 M ps (lk ++ [it]) kp b6 (d3.new sx) (SqT.of upd_same) ⟨B.n1, d3.ne_new (Same.free q2 n3), B.n3, B6.r, q4 _ _ (by rw [upd_same, List.map_append]; rfl), B6.m, B.o1, fun z hz => (mem_snoc.mp hz).elim (B.o2 z) (fun e => e ▸ hit), B.o3⟩ ?_
    unfold tot
    rw [List.length_append, List.length_singleton]
    omega
  refine ite2 (fun c => ?_) (fun c => ?_)
  · refine ⟨(by show 1 ≤ sizeLine; decide), fun p2 n2 => ?_⟩
    have q2 := same_new (o := .lst [.str it]) n2
    refine .inl ⟨_, _, upd_same, q2 _ _ B3.m, line_of (by rw [List.length_map, List.length_singleton]; omega), fun p3 n3 => ?_⟩
    have q3 := same_new (o := .lst ([.str it] ++ kp.map V.str)) n3
    refine ⟨(by show 3 ≤ sizeLine; decide), fun u nu => ?_⟩
    have q4 := same_new (o := .tup [.ref R, .ref L, .ref p3]) nu
    have sx := (q2.trans q3).trans q4
    have b6 := b3.trans (Bt.same (st := st) sx)
    have B6 := B.bt hs b6
    refine q _ u R L p3 ps lk (it :: kp) b6 (d3.new sx) (SqT.of upd_same) ⟨B.n1, B.n2, d3.ne_new (Same.free q2 n3), B6.r, B6.l, q4 _ _ (by rw [upd_same]; rfl), B.o1, B.o2, fun z hz => (List.mem_cons.mp hz).elim (fun e => e ▸ hit) (B.o3 z)⟩ ?_
    unfold tot
    rw [List.length_cons]
    omega
  · exact q _ t R L M ps lk kp b3 d3 (SqT.bt ht (NT.lst hs) b3) B3 (by omega)
end
section
variable {P : Program} {w : World} {K : PySem.W.Frag} {mg : Str → Option Value} {base : Heap}
variable {t_DIGITS t_LETTERS t_LONGEST_NAME : Tok} {a_DEEDS a_MARKS a_RESERVED a_SIGNS a_BadName a_BadPlan a_BadText a_ElseputError a_Plan a_Reader : Addr}
/-! ### lines that are bent -/
def poolL : List Str := [",", ";", "take", "look", "free", "lock", "keep", "and", "when", "0", "7", "-3", "007", "<=", "(", ":"]
theorem pool_ok : ∀ z ∈ poolL, tokB z.cps.toList = true ∧ 0 < z.length ∧ z.length ≤ 13 ∧ isName z = false := by decide +kernel
structure PP (ns : List Str) (z : Str) : Prop where
  t : z ∉ strangeL → Tok z.cps.toList
  l0 : 0 < z.length
  l1 : z.length ≤ 13
  nm : isName z = true ↔ z ∈ ns
theorem pp_no {ns : List Str} {z : Str} (hn : ∀ z ∈ ns, isName z = true) (h : isName z = false) : isName z = true ↔ z ∈ ns := ⟨fun e => (by rw [h] at e; cases e), hn z⟩
theorem pp_pool {ns : List Str} {z : Str} (hn : ∀ z ∈ ns, isName z = true) (h : z ∈ poolL) : PP ns z := by
  obtain ⟨h1, h2, h3, h4⟩ := pool_ok z h
  exact ⟨fun _ => tok_of h1, h2, h3, pp_no hn h4⟩
theorem pp_name {ns : List Str} {z : Str} (hn : ∀ z ∈ ns, isName z = true) (h : z ∈ ns) : PP ns z := by
  have e := hn z h
  obtain ⟨a1, a2, a3, _⟩ := isName_mem e
  refine ⟨fun _ => .word (fun e2 => ?_) fun c hc => ?_, by omega, by omega, ⟨fun _ => h, fun _ => e⟩⟩
  · have := len_cps z
    rw [e2] at this
    have : z.length = 0 := this.symm
    omega
  · have := a1 c hc
    rw [letters_cps] at this
    exact decide_eq_true this
theorem pp_strange {ns : List Str} {z : Str} (hn : ∀ z ∈ ns, isName z = true) (h : z ∈ strangeL) : PP ns z := by
  obtain ⟨_, h2, h3, h4, _⟩ := strange_ok z h
  exact ⟨fun n => absurd h n, h3, h2, pp_no hn h4⟩
theorem deeds_pool : (∀ d ∈ deeds, d ∈ poolL) ∧ ("," : Str) ∈ poolL ∧ (";" : Str) ∈ poolL ∧ ("lock" : Str) ∈ poolL ∧ ("keep" : Str) ∈ poolL := by decide +kernel
theorem wds_mem {ns : List Str} {ps : List Stp} {lk kp : List Str} (h1 : ∀ s ∈ ps, s.1 ∈ deeds ∧ s.2 ∈ ns) (h2 : ∀ z ∈ lk, z ∈ ns) (h3 : ∀ z ∈ kp, z ∈ ns) : ∀ z ∈ wds ps lk kp, z ∈ poolL ∨ z ∈ ns := fun z hz => by
  obtain ⟨d1, d2, d3, d4, d5⟩ := deeds_pool
  have ob : ∀ (w : Str) (zs : List Str), w ∈ poolL → (∀ z ∈ zs, z ∈ ns) → ∀ z ∈ ow w zs, z ∈ poolL ∨ z ∈ ns := fun w zs hw hz z h => by
    unfold ow at h
    split at h
    · cases h
    · rcases List.mem_cons.mp h with e | h
      · exact .inl (e ▸ d3)
      · rcases List.mem_cons.mp h with e | h
        · exact .inl (e ▸ hw)
        · exact .inr (hz z h)
  unfold wds at hz
  have hz := List.mem_of_mem_drop hz
  rcases List.mem_append.mp hz with h | h
  · rcases List.mem_append.mp h with h | h
    · unfold pw at h
      obtain ⟨s, hs, h⟩ := List.mem_flatMap.mp h
      obtain ⟨q1, q2⟩ := h1 s hs
      have h : z = "," ∨ z = s.1 ∨ z = s.2 := by simpa using h
      rcases h with e | e | e
      · exact .inl (e ▸ d2)
      · exact .inl (e ▸ d1 _ q1)
      · exact .inr (e ▸ q2)
    · exact ob _ _ d4 h2 z h
  · exact ob _ _ d5 h3 z h
theorem wds_len {ps : List Stp} {lk kp : List Str} : (wds ps lk kp).length ≤ tot ps lk kp + 3 := by
  unfold wds tot
  have h1 := pw_len (ps := ps)
  have h2 := ow_len (w := "lock") (zs := lk)
  have h3 := ow_len (w := "keep") (zs := kp)
  rw [List.length_drop, List.length_append, List.length_append]
  omega
theorem flat_rep {α : Type} (xs : List α) : ∀ n : Nat, (List.replicate n xs).flatten.length = n * xs.length
  | 0 => by simp
  | n + 1 => by
    rw [List.replicate_succ, List.flatten_cons, List.length_append, flat_rep xs n, Nat.succ_mul]
    omega
theorem pp_13 {ns : List Str} {z : Str} (hn : ∀ z ∈ ns, isName z = true) (h : isName z = true) : PP ns (cutS (repS z 13) none (some ((13 : Nat) : Int))) ∧ (repS z 13).length ≤ 156 := by
  obtain ⟨zm, z1, z12, zr⟩ := isName_mem h
  have e13 : (List.replicate 13 z.cps.toList).flatten.length = 13 * z.length := by rw [flat_rep, len_cps]
  have lr : (repS z 13).length = 13 * z.length := by
    rw [← len_cps, repS_cps]
    exact e13
  have e1 := cutS_take (repS z 13) (k := 13)
  have lw : (cutS (repS z 13) none (some ((13 : Nat) : Int))).length = 13 := by
    rw [← len_cps, e1, List.length_take, len_cps, lr]
    omega
  have nw : isName (cutS (repS z 13) none (some ((13 : Nat) : Int))) = false := by
    cases e : isName (cutS (repS z 13) none (some ((13 : Nat) : Int))) with
    | false => rfl
    | true =>
      have := (isName_mem e).2.2.1
      omega
  refine ⟨⟨fun _ => .word (fun e2 => ?_) fun c hc => ?_, by omega, by omega, pp_no hn nw⟩, by omega⟩
  · have := len_cps (cutS (repS z 13) none (some ((13 : Nat) : Int)))
    rw [e2, lw] at this
    cases this
  · rw [e1] at hc
    have hc := List.mem_of_mem_take hc
    rw [repS_cps] at hc
    obtain ⟨l, hl, hc⟩ := List.mem_flatten.mp hc
    rw [List.eq_of_mem_replicate hl] at hc
    have := zm c hc
    rw [letters_cps] at this
    exact decide_eq_true this
theorem cut_two {vs : List V} {a : Int} (h : 0 ≤ a) : ∃ i j : Nat, cutV vs (some a) (some (a + 2)) = (vs.drop i).take j ∧ j ≤ 2 := by
  have e1 := HT.sIx_nat vs.length 0 a.toNat
  have e2 := HT.sIx_nat vs.length vs.length (a + 2).toNat
  rw [show ((a.toNat : Nat) : Int) = a by omega] at e1
  rw [show (((a + 2).toNat : Nat) : Int) = a + 2 by omega] at e2
  refine ⟨_, _, rfl, ?_⟩
  rw [e1, e2]
  omega
def sp__law_bent (K : PySem.W.Frag) : Sp := fun vs H Q _ => ∃ (st scr t n R L M : Addr) (ps : List Stp) (lk kp ns : List Str), vs = [.ref st, .ref t, .ref n] ∧ DrAt H st scr ∧ SqT K H t [.ref R, .ref L, .ref M] ∧ H n = some (.lst (ns.map V.str)) ∧ n ≠ st ∧ 0 < ns.length ∧ ns.length ≤ 20 ∧ (∀ z ∈ ns, isName z = true) ∧
  Rws K H st ns R L M ps lk kp ∧ tot ps lk kp ≤ 50 ∧
  ∀ (H' : Hp) (p : Addr) (zs : List Str), Bt st H H' → DrAt H' st scr → p ≠ st → H' p = some (.lst (zs.map V.str)) → zs.length < 64 → (∀ z ∈ zs, PP ns z) → Q (.ref p) H'
theorem len__law_bent {vs : List V} {H : Hp} {Q : VK} {E : XK} (h : sp__law_bent K vs H Q E) : vs.length = 3 := by
  obtain ⟨_, _, _, _, _, _, _, _, _, _, _, rfl, _⟩ := h
  rfl
theorem ok__law_bent {f : Addr} {fd : FuncData} {f__law_parts : Addr} {fd__law_parts : FuncData} {f__law_draw : Addr} {fd__law_draw : FuncData} {f__law_pick : Addr} {fd__law_pick : FuncData} {f__law_strange : Addr} {fd__law_strange : FuncData} (F : Fun K "_law_bent" "_law_bent" s__law_bent f fd) (T : Gs K mg t_DIGITS t_LETTERS t_LONGEST_NAME a_DEEDS a_MARKS a_RESERVED a_SIGNS a_BadName a_BadPlan a_BadText a_ElseputError a_Plan a_Reader) (c__law_parts : Cal P w K mg base CX0 1 "_law_parts" f__law_parts fd__law_parts ["_law_steps", "_law_row_keys", "_law_held_keys"] (sp__law_parts K)) (c__law_draw : Cal P w K mg base CX0 1 "_law_draw" f__law_draw fd__law_draw ["_law_state_here", "_law_many"] (sp__law_draw K)) (c__law_pick : Cal P w K mg base CX0 2 "_law_pick" f__law_pick fd__law_pick ["_law_state_here", "_law_row"] (sp__law_pick K)) (c__law_strange : Cal P w K mg base CX0 1 "_law_strange" f__law_strange fd__law_strange [] (sp__law_strange K)) : FnOk P w K mg base CX0 3 f fd ["_law_state_here", "_law_rows", "_law_names_here"] (sp__law_bent K) := by
  refine F.ok sc__law_bent (fun vs H Q E h => len__law_bent h) (fun cdv A outer s H vs Q E hr h => ?_)
  obtain ⟨st, scr, t, n, R, L, M, ps, lk, kp, ns, rfl, hd, ht, hn, ne, n0, n20, hnn, B, lt, q⟩ := h
  have wl := wds_len (ps := ps) (lk := lk) (kp := kp)
  have wm := wds_mem B.o1 B.o2 B.o3
  have lt : 3 * ps.length + lk.length + kp.length ≤ 50 := lt
  have wl : (wds ps lk kp).length ≤ 53 := Nat.le_trans wl (by unfold tot; omega)
  refine ⟨_, (pss_cons (ps_asg (v_ 1) (pg_tup (by rfl) (pgs_cons (pg_name (i := 8) sc__law_bent.nd rfl (.inl rfl)) (pgs_cons (pg_name (i := 9) sc__law_bent.nd rfl (.inl rfl)) (pgs_cons (pg_name (i := 10) sc__law_bent.nd rfl (.inl rfl)) pgs_nil))))) (pss_cons (ps_set (i := 3) sc__law_bent.nd rfl (.inl rfl) (pe_call c__law_parts.G (hr.mono (by first | decide | omega)) rfl c__law_parts.m c__law_parts.kp c__law_parts.b .nil pass0 (pa_cons (v_ 8) (pa_cons (v_ 9) (pa_cons (v_ 10) pa_nil))))) (pss_cons (ps_set (i := 4) sc__law_bent.nd rfl (.inl rfl) (pe_call c__law_draw.G (hr.mono (by first | decide | omega)) rfl c__law_draw.m c__law_draw.kp c__law_draw.b .nil pass0 (pa_cons (v_ 0) (pa_cons pe_int pa_nil)))) (pss_cons (ps_set (i := 5) sc__law_bent.nd rfl (.inl rfl) (pe_call c__law_draw.G (hr.mono (by first | decide | omega)) rfl c__law_draw.m c__law_draw.kp c__law_draw.b .nil pass0 (pa_cons (v_ 0) (pa_cons (pe_op (addK K) (pe_callB (lenK K) (by rfl) T.z_len PySem.boot_len (pa_cons (v_ 3) pa_nil)) pe_int) pa_nil)))) (pss_cons (ps_set (i := 6) sc__law_bent.nd rfl (.inl rfl) (pe_lst (pa_cons pe_str (pa_cons pe_str (pa_cons pe_str (pa_cons pe_str (pa_cons pe_str (pa_cons pe_str (pa_cons pe_str (pa_cons pe_str (pa_cons pe_str (pa_cons pe_str (pa_cons pe_str (pa_cons pe_str (pa_cons pe_str (pa_cons pe_str (pa_cons pe_str (pa_cons pe_str pa_nil)))))))))))))))))) (pss_cons (ps_set (i := 7) sc__law_bent.nd rfl (.inl rfl) (pe_call c__law_pick.G (hr.mono (by first | decide | omega)) rfl c__law_pick.m c__law_pick.kp c__law_pick.b .nil pass0 (pa_cons (v_ 0) (pa_cons (pe_op (addK K) (pe_op (addK K) (v_ 6) (pe_lst (pa_cons (pe_slice (slK K) (pe_op op_mulSM (e_x K (v_ 2) pe_int) pe_int) po_none (po_some pe_int)) pa_nil))) (v_ 2)) pa_nil)))) (pss_cons (ps_if (pt_c (eqK K hr.units) (v_ 4) pe_int) (pss_one (ps_ret (pe_slice (slK K) (v_ 3) po_none (po_some (v_ 5))))) pss_nil) (pss_cons (ps_if (pt_c (eqK K hr.units) (v_ 4) pe_int) (pss_one (ps_ret (pe_op (addK K) (pe_op (addK K) (pe_slice (slK K) (v_ 3) po_none (po_some (v_ 5))) (pe_lst (pa_cons (v_ 7) pa_nil))) (pe_slice (slK K) (v_ 3) (po_some (pe_op (addK K) (v_ 5) pe_int)) po_none)))) pss_nil) (pss_cons (ps_if (pt_c (eqK K hr.units) (v_ 4) pe_int) (pss_one (ps_ret (pe_op (addK K) (pe_op (addK K) (pe_slice (slK K) (v_ 3) po_none (po_some (v_ 5))) (pe_lst (pa_cons (v_ 7) pa_nil))) (pe_slice (slK K) (v_ 3) (po_some (v_ 5)) po_none)))) pss_nil) (pss_cons (ps_if (pt_c (eqK K hr.units) (v_ 4) pe_int) (pss_one (ps_ret (pe_op (addK K) (pe_slice (slK K) (v_ 3) po_none (po_some (v_ 5))) (pe_slice (slK K) (v_ 3) (po_some (pe_op (addK K) (v_ 5) pe_int)) po_none)))) pss_nil) (pss_cons (ps_if (pt_c (eqK K hr.units) (v_ 4) pe_int) (pss_one (ps_ret (pe_op (addK K) (pe_op (addK K) (pe_slice (slK K) (v_ 3) po_none (po_some (v_ 5))) (pe_revL (pe_slice (slK K) (v_ 3) (po_some (v_ 5)) (po_some (pe_op (addK K) (v_ 5) pe_int))))) (pe_slice (slK K) (v_ 3) (po_some (pe_op (addK K) (v_ 5) pe_int)) po_none)))) pss_nil) (pss_cons (ps_if (pt_c (eqK K hr.units) (v_ 4) pe_int) (pss_one (ps_ret (pe_op (addK K) (pe_op (addK K) (pe_slice (slK K) (v_ 3) po_none (po_some (v_ 5))) (pe_lst (pa_cons (pe_call c__law_pick.G (hr.mono (by first | decide | omega)) rfl c__law_pick.m c__law_pick.kp c__law_pick.b .nil pass0 (pa_cons (v_ 0) (pa_cons (pe_call0 c__law_strange.G (hr.mono (by first | decide | omega)) rfl c__law_strange.m c__law_strange.kp c__law_strange.b .nil pass0) pa_nil))) pa_nil))) (pe_slice (slK K) (v_ 3) (po_some (v_ 5)) po_none)))) pss_nil) (pss_cons (ps_if (PW.pt (pw_and (pt_c (eqK K hr.units) (v_ 4) pe_int) (pw_and (pt_c op_gtM (pe_callB (lenK K) (by rfl) T.z_len PySem.boot_len (pa_cons (v_ 9) pa_nil)) pe_int) (pw_and1 (pt_c op_gtM (pe_callB (lenK K) (by rfl) T.z_len PySem.boot_len (pa_cons (v_ 10) pa_nil)) pe_int))))) (pss_one (ps_ret (pe_op (addK K) (pe_op (addK K) (pe_call c__law_parts.G (hr.mono (by first | decide | omega)) rfl c__law_parts.m c__law_parts.kp c__law_parts.b .nil pass0 (pa_cons (v_ 8) (pa_cons (pe_lst pa_nil) (pa_cons (v_ 10) pa_nil)))) (pe_lst (pa_cons pe_str (pa_cons pe_str pa_nil)))) (v_ 9)))) pss_nil) (pss_one (ps_ret (v_ 3)))))))))))))))), ?_⟩
  refine ⟨t, _, rfl, ht, rfl, _, _, rfl, _, _, rfl, _, _, rfl, rfl, ?_⟩
  have hs : ∃ l, H st = some (.lst l) := hd.lst
  refine ⟨R, L, M, ps, lk, kp, rfl, B.r, B.l, B.m, by omega, by omega, by omega, fun H1 P s1 nP eP => ?_⟩
  have Ps : P ≠ st := hd.ne_new nP
  have d1 := hd.new s1
  have b1 : Bt st H H1 := Bt.same s1
  have wp : ∀ z ∈ wds ps lk kp, PP ns z := fun z hz => (wm z hz).elim (pp_pool hnn) (pp_name hnn)
  clear wm s1
  generalize wds ps lk kp = zs at eP wl wp
  refine ⟨st, scr, 8, rfl, d1, by decide, many_small (by decide) (by decide), fun kind l1 k0 k1 d2 => ?_⟩
  have b2 := b1.trans (Bt.st (st := st) (o := .lst l1))
  have eP2 : upd H1 st (.lst l1) P = some (.lst (zs.map V.str)) := by rw [upd_ne Ps]; exact eP
  generalize upd H1 st (.lst l1) = H2 at d2 b2 eP2 ⊢
  refine .inl ⟨_, .inl (SqL.of eP2), ?_⟩
  rw [List.length_map]
  refine ⟨st, scr, _, rfl, d2, by omega, many_small (by omega) (by omega), fun at_ l2 a0 a1 d3 => ?_⟩
  have b3 := b2.trans (Bt.st (st := st) (o := .lst l2))
  have eP3 : upd H2 st (.lst l2) P = some (.lst (zs.map V.str)) := by rw [upd_ne Ps]; exact eP2
  generalize upd H2 st (.lst l2) = H3 at d3 b3 eP3 ⊢
  clear d1 b1 d2 b2 eP eP2
  -- the item
  refine ⟨(by show 16 ≤ sizeLine; decide), fun pl npl => ?_⟩
  have r1 := same_new (o := .lst (poolL.map V.str)) npl
  have hn3 := b3 _ _ ne hn
  obtain ⟨z0, ez0⟩ : ∃ z, ns[0]? = some z := ⟨_, List.getElem?_eq_getElem n0⟩
  have az0 : atI (ns.map V.str) 0 = some (.str z0) := atI_nat (j := 0) (by rw [List.getElem?_map, ez0]; rfl)
  obtain ⟨p13, l13⟩ := pp_13 hnn (hnn z0 (List.mem_of_getElem? ez0))
  have z12 := (isName_mem (hnn z0 (List.mem_of_getElem? ez0))).2.2.1
  refine ⟨_, .inl (SqL.of (r1 _ _ hn3)), _, az0, by decide, by decide, by omega, _, rfl, line_of (by omega), (by show 1 ≤ sizeLine; decide), fun w nw => ?_⟩
  have r2 := same_new (o := .lst [.str (cutS (repS z0 13) none (some ((13 : Nat) : Int)))]) nw
  refine .inl ⟨_, _, r2 _ _ (upd_same (H := H3) (a := pl) (o := .lst (poolL.map V.str))), upd_same, (by show 16 + 1 ≤ sizeLine; decide), fun p3 n3 => ?_⟩
  have r3 := same_new (o := .lst (poolL.map V.str ++ [.str (cutS (repS z0 13) none (some ((13 : Nat) : Int)))])) n3
  have r13 := (r1.trans r2).trans r3
  refine .inl ⟨_, _, upd_same, r13 _ _ hn3, line_of (by rw [List.length_append, List.length_map, List.length_map]; show 16 + 1 + _ ≤ _; omega), fun p4 n4 => ?_⟩
  have r4 := same_new (o := .lst (poolL.map V.str ++ [.str (cutS (repS z0 13) none (some ((13 : Nat) : Int)))] ++ ns.map V.str)) n4
  have r14 := r13.trans r4
  have d4 := d3.new r14
  refine ⟨st, scr, _, rfl, d4, .inr ⟨p4, _, rfl, upd_same, d3.ne_new (Same.free r13 n4), by rw [List.length_append, List.length_append, List.length_map]; show 0 < 16 + 1 + _; omega, by rw [List.length_append, List.length_append, List.length_map, List.length_map]; show 16 + 1 + _ ≤ _; omega, fun x l5 hx d5 => ?_⟩⟩
  obtain ⟨it, rfl, hit⟩ : ∃ it, x = .str it ∧ PP ns it := by
    rcases List.mem_append.mp hx with h | h
    · rcases List.mem_append.mp h with h | h
      · obtain ⟨y, hy, rfl⟩ := List.mem_map.mp h
        exact ⟨y, rfl, pp_pool hnn hy⟩
      · exact ⟨_, List.mem_singleton.mp h, p13⟩
    · obtain ⟨y, hy, rfl⟩ := List.mem_map.mp h
      exact ⟨y, rfl, pp_name hnn hy⟩
  generalize hH5 : upd _ st _ = H5 at d5 ⊢
  have b5 : Bt st H H5 := by rw [← hH5]; exact (b3.trans (Bt.same (st := st) r14)).trans Bt.st
  have eP5 : H5 P = some (.lst (zs.map V.str)) := by rw [← hH5, upd_ne Ps]; exact r14 _ _ eP3
  clear hH5
  clear r1 r2 r3 r4 r13 r14 d4 d3 b3 eP3 hn3 npl nw n3 n4 hx
  have e1 : cutV (zs.map V.str) none (some at_) = (zs.take at_.toNat).map V.str := by rw [cutV_take _ a0, List.map_take]
  have e2 : cutV (zs.map V.str) (some at_) none = (zs.drop at_.toNat).map V.str := by rw [cutV_drop _ a0, List.map_drop]
  have e3 : cutV (zs.map V.str) (some (at_ + 1)) none = (zs.drop (at_ + 1).toNat).map V.str := by rw [cutV_drop _ (by omega), List.map_drop]
  have e4 : cutV (zs.map V.str) (some (at_ + 2)) none = (zs.drop (at_ + 2).toNat).map V.str := by rw [cutV_drop _ (by omega), List.map_drop]
  have fin : ∀ {H6 : Hp} {p5 : Addr} {ys : List Str}, Same H5 H6 → H5 p5 = none → H6 p5 = some (.lst (ys.map V.str)) → ys.length < 64 → (∀ z ∈ ys, PP ns z) → Q (.ref p5) H6 := fun {H6 p5 ys} s n5 h5 l5 o5 => q H6 p5 ys (b5.trans (Bt.same s)) (d5.new s) (d5.ne_new n5) h5 l5 o5
  have tp : ∀ {i : Nat}, ∀ z ∈ zs.take i, PP ns z := fun z h => wp z (List.mem_of_mem_take h)
  have dp : ∀ {i : Nat}, ∀ z ∈ zs.drop i, PP ns z := fun z h => wp z (List.mem_of_mem_drop h)
  have ap : ∀ {xs ys : List Str}, (∀ z ∈ xs, PP ns z) → (∀ z ∈ ys, PP ns z) → ∀ z ∈ xs ++ ys, PP ns z := fun h1 h2 z hz => (List.mem_append.mp hz).elim (h1 z) (h2 z)
  have sg : ∀ {y : Str}, PP ns y → ∀ z ∈ [y], PP ns z := fun h z hz => (List.mem_singleton.mp hz) ▸ h
  -- 1: the line cut
  refine ite2 (fun c => ?_) (fun c => ?_)
  · refine ⟨at_, rfl, .inl ⟨_, SqL.of eP5, fun p1 m1 => ?_⟩⟩
    rw [e1]
    exact fin (same_new m1) m1 upd_same (by rw [List.length_take]; omega) tp
  -- 2: a piece replaced
  refine ite2 (fun c => ?_) (fun c => ?_)
  · refine ⟨at_, rfl, .inl ⟨_, SqL.of eP5, fun p1 m1 => ?_⟩⟩
    rw [e1]
    have q1 := same_new (o := .lst ((zs.take at_.toNat).map V.str)) m1
    refine ⟨(by show 1 ≤ sizeLine; decide), fun p2 m2 => ?_⟩
    have q2 := same_new (o := .lst [.str it]) m2
    refine .inl ⟨_, _, q2 _ _ upd_same, upd_same, line_of (by rw [List.length_map, List.length_take, List.length_singleton]; omega), fun p3 m3 => ?_⟩
    have q3 := same_new (o := .lst ((zs.take at_.toNat).map V.str ++ [.str it])) m3
    have q13 := (q1.trans q2).trans q3
    refine ⟨at_ + 1, rfl, .inl ⟨_, SqL.of (q13 _ _ eP5), fun p4 m4 => ?_⟩⟩
    rw [e3]
    have q4 := same_new (o := .lst ((zs.drop (at_ + 1).toNat).map V.str)) m4
    refine .inl ⟨_, _, q4 _ _ upd_same, upd_same, line_of (by rw [List.length_append, List.length_map, List.length_map, List.length_take, List.length_drop, List.length_singleton]; omega), fun p5 m5 => ?_⟩
    have q5 := same_new (o := .lst ((zs.take at_.toNat).map V.str ++ [.str it] ++ (zs.drop (at_ + 1).toNat).map V.str)) m5
    refine fin (ys := zs.take at_.toNat ++ [it] ++ zs.drop (at_ + 1).toNat) ((q13.trans q4).trans q5) (Same.free (q13.trans q4) m5) (by rw [upd_same, List.map_append, List.map_append]; rfl) (by rw [List.length_append, List.length_append, List.length_take, List.length_drop, List.length_singleton]; omega) (ap (ap tp (sg hit)) dp)
  -- 3: a piece put in
  refine ite2 (fun c => ?_) (fun c => ?_)
  · refine ⟨at_, rfl, .inl ⟨_, SqL.of eP5, fun p1 m1 => ?_⟩⟩
    rw [e1]
    have q1 := same_new (o := .lst ((zs.take at_.toNat).map V.str)) m1
    refine ⟨(by show 1 ≤ sizeLine; decide), fun p2 m2 => ?_⟩
    have q2 := same_new (o := .lst [.str it]) m2
    refine .inl ⟨_, _, q2 _ _ upd_same, upd_same, line_of (by rw [List.length_map, List.length_take, List.length_singleton]; omega), fun p3 m3 => ?_⟩
    have q3 := same_new (o := .lst ((zs.take at_.toNat).map V.str ++ [.str it])) m3
    have q13 := (q1.trans q2).trans q3
    refine ⟨at_, rfl, .inl ⟨_, SqL.of (q13 _ _ eP5), fun p4 m4 => ?_⟩⟩
    rw [e2]
    have q4 := same_new (o := .lst ((zs.drop at_.toNat).map V.str)) m4
    refine .inl ⟨_, _, q4 _ _ upd_same, upd_same, line_of (by rw [List.length_append, List.length_map, List.length_map, List.length_take, List.length_drop, List.length_singleton]; omega), fun p5 m5 => ?_⟩
    have q5 := same_new (o := .lst ((zs.take at_.toNat).map V.str ++ [.str it] ++ (zs.drop at_.toNat).map V.str)) m5
    refine fin (ys := zs.take at_.toNat ++ [it] ++ zs.drop at_.toNat) ((q13.trans q4).trans q5) (Same.free (q13.trans q4) m5) (by rw [upd_same, List.map_append, List.map_append]; rfl) (by rw [List.length_append, List.length_append, List.length_take, List.length_drop, List.length_singleton]; omega) (ap (ap tp (sg hit)) dp)
  -- 4: a piece taken out
  refine ite2 (fun c => ?_) (fun c => ?_)
  · refine ⟨at_, rfl, .inl ⟨_, SqL.of eP5, fun p1 m1 => ?_⟩⟩
    rw [e1]
    have q1 := same_new (o := .lst ((zs.take at_.toNat).map V.str)) m1
    refine ⟨at_ + 1, rfl, .inl ⟨_, SqL.of (q1 _ _ eP5), fun p4 m4 => ?_⟩⟩
    rw [e3]
    have q4 := same_new (o := .lst ((zs.drop (at_ + 1).toNat).map V.str)) m4
    refine .inl ⟨_, _, q4 _ _ upd_same, upd_same, line_of (by rw [List.length_map, List.length_map, List.length_take, List.length_drop]; omega), fun p5 m5 => ?_⟩
    have q5 := same_new (o := .lst ((zs.take at_.toNat).map V.str ++ (zs.drop (at_ + 1).toNat).map V.str)) m5
    refine fin (ys := zs.take at_.toNat ++ zs.drop (at_ + 1).toNat) ((q1.trans q4).trans q5) (Same.free (q1.trans q4) m5) (by rw [upd_same, List.map_append]) (by rw [List.length_append, List.length_take, List.length_drop]; omega) (ap tp dp)
  -- 5: two pieces exchanged
  refine ite2 (fun c => ?_) (fun c => ?_)
  · obtain ⟨i, j, ec, hj⟩ := cut_two (vs := zs.map V.str) a0
    have ec : cutV (zs.map V.str) (some at_) (some (at_ + 2)) = ((zs.drop i).take j).map V.str := by rw [ec, List.map_take, List.map_drop]
    refine ⟨at_, rfl, .inl ⟨_, SqL.of eP5, fun p1 m1 => ?_⟩⟩
    rw [e1]
    have q1 := same_new (o := .lst ((zs.take at_.toNat).map V.str)) m1
    refine ⟨at_, rfl, at_ + 2, rfl, .inl ⟨_, SqL.of (q1 _ _ eP5), fun p2 m2 => ?_⟩⟩
    rw [ec]
    have q2 := same_new (o := .lst (((zs.drop i).take j).map V.str)) m2
    refine ⟨p2, _, rfl, SqL.of upd_same, fun p3 m3 => ?_⟩
    rw [← List.map_reverse]
    have q3 := same_new (o := .lst (((zs.drop i).take j).reverse.map V.str)) m3
    have lm : ((zs.drop i).take j).length ≤ 2 := by rw [List.length_take]; omega
    refine .inl ⟨_, _, q3 _ _ (q2 _ _ upd_same), upd_same, line_of (by rw [List.length_map, List.length_map, List.length_take, List.length_reverse]; omega), fun p4 m4 => ?_⟩
    have q4 := same_new (o := .lst ((zs.take at_.toNat).map V.str ++ ((zs.drop i).take j).reverse.map V.str)) m4
    have q14 := ((q1.trans q2).trans q3).trans q4
    refine ⟨at_ + 2, rfl, .inl ⟨_, SqL.of (q14 _ _ eP5), fun p6 m6 => ?_⟩⟩
    rw [e4]
    have q5 := same_new (o := .lst ((zs.drop (at_ + 2).toNat).map V.str)) m6
    refine .inl ⟨_, _, q5 _ _ upd_same, upd_same, line_of (by rw [List.length_append, List.length_map, List.length_map, List.length_map, List.length_take, List.length_drop, List.length_reverse]; omega), fun p5 m5 => ?_⟩
    have q6 := same_new (o := .lst ((zs.take at_.toNat).map V.str ++ ((zs.drop i).take j).reverse.map V.str ++ (zs.drop (at_ + 2).toNat).map V.str)) m5
    refine fin (ys := zs.take at_.toNat ++ ((zs.drop i).take j).reverse ++ zs.drop (at_ + 2).toNat) ((q14.trans q5).trans q6) (Same.free (q14.trans q5) m5) (by rw [upd_same, List.map_append, List.map_append]) (by rw [List.length_append, List.length_append, List.length_take, List.length_drop, List.length_reverse]; omega) (ap (ap tp fun z hz => wp z (List.mem_of_mem_drop (List.mem_of_mem_take (List.mem_reverse.mp hz)))) dp)
  -- 6: a strange piece
  refine ite2 (fun c => ?_) (fun c => ?_)
  · refine ⟨at_, rfl, .inl ⟨_, SqL.of eP5, fun p1 m1 => ?_⟩⟩
    rw [e1]
    have q1 := same_new (o := .lst ((zs.take at_.toNat).map V.str)) m1
    have p1s : p1 ≠ st := d5.ne_new m1
    refine ⟨rfl, fun H6 w s6 nw hw => ?_⟩
    have q16 := q1.trans s6
    have d6 := d5.new q16
    refine ⟨st, scr, _, rfl, d6, .inr ⟨w, _, rfl, hw, (d5.new q1).ne_new nw, by decide, by decide, fun x l7 hx d7 => ?_⟩⟩
    obtain ⟨y, hy, rfl⟩ := List.mem_map.mp hx
    have hyp := pp_strange hnn hy
    have b7 : Bt st H5 (upd H6 st (.lst l7)) := (Bt.same (st := st) q16).trans Bt.st
    have g1 : (upd H6 st (.lst l7)) p1 = some (.lst ((zs.take at_.toNat).map V.str)) := by rw [upd_ne p1s]; exact s6 _ _ upd_same
    have g2 : (upd H6 st (.lst l7)) P = some (.lst (zs.map V.str)) := by rw [upd_ne Ps]; exact q16 _ _ eP5
    generalize upd H6 st (.lst l7) = H7 at d7 b7 g1 g2 ⊢
    refine ⟨(by show 1 ≤ sizeLine; decide), fun p2 m2 => ?_⟩
    have q2 := same_new (o := .lst [.str y]) m2
    refine .inl ⟨_, _, q2 _ _ g1, upd_same, line_of (by rw [List.length_map, List.length_take, List.length_singleton]; omega), fun p3 m3 => ?_⟩
    have q3 := same_new (o := .lst ((zs.take at_.toNat).map V.str ++ [.str y])) m3
    have q23 := q2.trans q3
    refine ⟨at_, rfl, .inl ⟨_, SqL.of (q23 _ _ g2), fun p4 m4 => ?_⟩⟩
    rw [e2]
    have q4 := same_new (o := .lst ((zs.drop at_.toNat).map V.str)) m4
    refine .inl ⟨_, _, q4 _ _ upd_same, upd_same, line_of (by rw [List.length_append, List.length_map, List.length_map, List.length_take, List.length_drop, List.length_singleton]; omega), fun p5 m5 => ?_⟩
    have q5 := same_new (o := .lst ((zs.take at_.toNat).map V.str ++ [.str y] ++ (zs.drop at_.toNat).map V.str)) m5
    have sx := (q23.trans q4).trans q5
    exact q _ p5 (zs.take at_.toNat ++ [y] ++ zs.drop at_.toNat) ((b5.trans b7).trans (Bt.same sx)) (d7.new sx) (d7.ne_new (Same.free (q23.trans q4) m5)) (by rw [upd_same, List.map_append, List.map_append]; rfl) (by rw [List.length_append, List.length_append, List.length_take, List.length_drop, List.length_singleton]; omega) (ap (ap tp (sg hyp)) dp)
  -- 7: the locked keys behind the kept ones
  have same_ : Q (.ref P) H5 := q H5 P zs b5 d5 Ps eP5 (by omega) wp
  refine ite2 (fun c => ?_) (fun c => same_)
  have B5 := B.bt hs b5
  refine .inl ⟨_, .inl (SqL.of B5.l), ?_⟩
  refine ite2 (fun c => ?_) (fun c => same_)
  refine .inl ⟨_, .inl (SqL.of B5.m), ?_⟩
  refine ite2 (fun c => ?_) (fun c => same_)
  refine ⟨Nat.zero_le _, fun p1 m1 => ?_⟩
  have q1 := same_new (o := .lst []) m1
  have B6 := B5.bt d5.lst (Bt.same (st := st) q1)
  refine ⟨R, p1, M, ps, [], kp, rfl, B6.r, upd_same, B6.m, by omega, Nat.zero_le _, by omega, fun H7 p2 s7 n2 e7 => ?_⟩
  have q17 := q1.trans s7
  have w2 := wds_len (ps := ps) (lk := []) (kp := kp)
  have w2 : (wds ps [] kp).length ≤ 53 - lk.length := Nat.le_trans w2 (by unfold tot; rw [List.length_nil]; omega)
  have wm2 := wds_mem (lk := []) B.o1 (fun _ h => nomatch h) B.o3
  have wp2 : ∀ z ∈ wds ps [] kp, PP ns z := fun z hz => (wm2 z hz).elim (pp_pool hnn) (pp_name hnn)
  refine ⟨(by show 2 ≤ sizeLine; decide), fun p3 m3 => ?_⟩
  have q3 := same_new (o := .lst [.str ";", .str "lock"]) m3
  refine .inl ⟨_, _, q3 _ _ e7, upd_same, line_of (by rw [List.length_map]; show _ + 2 ≤ _; omega), fun p4 m4 => ?_⟩
  have q4 := same_new (o := .lst ((wds ps [] kp).map V.str ++ [.str ";", .str "lock"])) m4
  have q174 := (q17.trans q3).trans q4
  refine .inl ⟨_, _, upd_same, q174 _ _ B5.l, line_of (by rw [List.length_append, List.length_map, List.length_map]; show _ + 2 + _ ≤ _; omega), fun p5 m5 => ?_⟩
  have q5 := same_new (o := .lst ((wds ps [] kp).map V.str ++ [.str ";", .str "lock"] ++ lk.map V.str)) m5
  refine fin (ys := wds ps [] kp ++ ([";", "lock"] : List Str) ++ lk) (q174.trans q5) (Same.free q174 m5) (by rw [upd_same, List.map_append, List.map_append]; rfl) (by rw [List.length_append, List.length_append]; show _ + 2 + _ < 64; omega) (ap (ap wp2 fun z hz => ?_) fun z hz => pp_name hnn (B.o2 z hz))
  have hz : z = ";" ∨ z = "lock" := by simpa using hz
  rcases hz with rfl | rfl
  · exact pp_pool hnn deeds_pool.2.2.1
  · exact pp_pool hnn deeds_pool.2.2.2.1
end
section
variable {P : Program} {w : World} {K : PySem.W.Frag} {mg : Str → Option Value} {base : Heap}
variable {t_DIGITS t_LETTERS t_LONGEST_NAME : Tok} {a_DEEDS a_MARKS a_RESERVED a_SIGNS a_BadName a_BadPlan a_BadText a_ElseputError a_Plan a_Reader : Addr}
def spLaw (K : PySem.W.Frag) : Sp := fun vs H Q _ => ∃ (a : Addr) (ns : List Int), vs = [.ref a] ∧ SqL K H a (ns.map V.int) ∧ ns.length ≤ 63 ∧ ∀ H', Q (.bl true) H'
abbrev sp_law := spLaw
theorem len_law {vs : List V} {H : Hp} {Q : VK} {E : XK} (h : sp_law K vs H Q E) : vs.length = 1 := by
  obtain ⟨_, _, rfl, _⟩ := h
  rfl
theorem same_ref {H : Hp} {t u : Addr} {xs ys : List V} {n : Nat} (h1 : H t = some (.lst xs)) (h2 : H u = some (.lst ys)) (hl : xs.length = ys.length) (h4 : ys.length ≤ 1000) (h : ∀ (i : Nat) (a b : V), xs[i]? = some a → ys[i]? = some b → SameV K H n a b) : SameV K H (n + 1) (.ref t) (.ref u) :=
  .inr (.inr (.inl ⟨t, u, _, _, rfl, rfl, h1, h2, hl, h4, h⟩))
theorem same_flat {H : Hp} {t u : Addr} {xs : List V} {n : Nat} (h1 : SqT K H t xs) (h2 : SqT K H u xs) (h4 : xs.length ≤ 1000) (hf : ∀ v ∈ xs, Fl v) : SameV K H (n + 2) (.ref t) (.ref u) :=
  same_tupN h1 h2 rfl h4 fun i a b ha hb => by
    rw [ha] at hb
    cases hb
    exact same_fl (hf a (List.mem_of_getElem? ha))
theorem same_pair {H : Hp} {x y : V} {p : Stp} {n : Nat} (h1 : PairAt K H x p) (h2 : PairAt K H y p) : SameV K H (n + 2) x y := by
  obtain ⟨t, rfl, h1⟩ := h1
  obtain ⟨u, rfl, h2⟩ := h2
  refine same_flat h1 h2 (by show 2 ≤ 1000; decide) fun v hv => ?_
  simp only [List.mem_cons, List.not_mem_nil, or_false] at hv
  rcases hv with rfl | rfl
  · exact .inr (.inl ⟨_, rfl⟩)
  · exact .inr (.inl ⟨_, rfl⟩)
theorem same_each {H : Hp} {xs ys : List V} {ps : List Stp} {n : Nat} (p1 : PairsIn K H xs ps) (p2 : PairsIn K H ys ps) : ∀ (i : Nat) (a b : V), xs[i]? = some a → ys[i]? = some b → SameV K H (n + 2) a b := fun i a b ha hb => by
  obtain ⟨p, e1, a1⟩ := pairs_at p1 ha
  obtain ⟨q, e2, a2⟩ := pairs_at p2 hb
  rw [e1] at e2
  cases e2
  exact same_pair a1 a2
theorem same_stepsL {H : Hp} {t u : Addr} {xs ys : List V} {ps : List Stp} {n : Nat} (h1 : H t = some (.lst xs)) (h2 : H u = some (.lst ys)) (p1 : PairsIn K H xs ps) (p2 : PairsIn K H ys ps) (hl : ps.length ≤ 1000) : SameV K H (n + 3) (.ref t) (.ref u) :=
  same_ref h1 h2 ((pairs_len p1).trans (pairs_len p2).symm) (by rw [pairs_len p2]; exact hl) (same_each p1 p2)
theorem same_stepsT {H : Hp} {t u : Addr} {ps : List Stp} {n : Nat} (h1 : StT K H t ps) (h2 : StT K H u ps) (hl : ps.length ≤ 1000) : SameV K H (n + 3) (.ref t) (.ref u) := by
  obtain ⟨xs, h1, p1⟩ := h1
  obtain ⟨ys, h2, p2⟩ := h2
  exact same_tupN h1 h2 ((pairs_len p1).trans (pairs_len p2).symm) (by rw [pairs_len p2]; exact hl) (same_each p1 p2)
theorem same_strsL {H : Hp} {t u : Addr} {zs : List Str} {n : Nat} (h1 : H t = some (.lst (zs.map V.str))) (h2 : H u = some (.lst (zs.map V.str))) (hl : zs.length ≤ 1000) : SameV K H (n + 2) (.ref t) (.ref u) :=
  same_ref h1 h2 rfl (by rw [List.length_map]; exact hl) fun i a b ha hb => by
    rw [ha] at hb
    cases hb
    rw [List.getElem?_map] at ha
    obtain ⟨z, hz, rfl⟩ := Option.map_eq_some_iff.mp ha
    exact same_str z
theorem same_3 {H : Hp} {t u : Addr} {x0 x1 x2 y0 y1 y2 : V} {n : Nat} (h1 : SqT K H t [x0, x1, x2]) (h2 : SqT K H u [y0, y1, y2]) (a : SameV K H n x0 y0) (b : SameV K H n x1 y1) (c : SameV K H n x2 y2) : SameV K H (n + 1) (.ref t) (.ref u) :=
  same_tupN h1 h2 rfl (by show 3 ≤ 1000; decide) fun i x y hx hy => by
    match i, hx, hy with
    | 0, hx, hy => cases hx; cases hy; exact a
    | 1, hx, hy => cases hx; cases hy; exact b
    | 2, hx, hy => cases hx; cases hy; exact c
    | i + 3, hx, hy => cases hx
theorem same_non {H : Hp} {n : Nat} : SameV K H (n + 1) .non .non := same_fl (.inr (.inr (.inr rfl)))
theorem same_flt {H : Hp} {u v : Addr} {xs : List V} {n : Nat} (h1 : H u = some (.tup xs)) (h2 : H v = some (.tup xs)) (l : xs.length ≤ 1000) (f : ∀ v ∈ xs, Fl v) : SameV K H (n + 2) (.ref u) (.ref v) := same_flat (SqT.of h1) (SqT.of h2) l f
theorem same_5 {H : Hp} {t u : Addr} {x0 x1 x2 x3 x4 y0 y1 y2 y3 y4 : V} {n : Nat} (h1 : SqT K H t [x0, x1, x2, x3, x4]) (h2 : SqT K H u [y0, y1, y2, y3, y4]) (a : SameV K H n x0 y0) (b : SameV K H n x1 y1) (c : SameV K H n x2 y2) (d : SameV K H n x3 y3) (e : SameV K H n x4 y4) : SameV K H (n + 1) (.ref t) (.ref u) :=
  same_tupN h1 h2 rfl (by show 5 ≤ 1000; decide) fun i x y hx hy => by
    match i, hx, hy with
    | 0, hx, hy => cases hx; cases hy; exact a
    | 1, hx, hy => cases hx; cases hy; exact b
    | 2, hx, hy => cases hx; cases hy; exact c
    | 3, hx, hy => cases hx; cases hy; exact d
    | 4, hx, hy => cases hx; cases hy; exact e
    | i + 5, hx, hy => cases hx
theorem out_same {H : Hp} {o : Out} {t u : Addr} {n : Nat} (hs : OutShrt o) (h1 : OutV K H o t) (h2 : OutV K H o u) : SameV K H (n + 4) (.ref t) (.ref u) := by
  cases o with
  | bad c =>
    obtain ⟨a, b, g1, g2, g3⟩ := h1
    obtain ⟨a', b', k1, k2, k3⟩ := h2
    refine same_3 (SqT.of g1) (SqT.of k1) (same_str _) (same_flt g2 k2 (by show 3 ≤ 1000; decide) fun v hv => ?_) (same_flt g3 k3 (by show 2 ≤ 1000; decide) fun v hv => ?_)
    · simp only [List.mem_cons, List.not_mem_nil, or_false] at hv
      rcases hv with rfl | rfl | rfl <;> exact .inr (.inr (.inl ⟨_, rfl⟩))
    · simp only [List.mem_cons, List.not_mem_nil, or_false] at hv
      rcases hv with rfl | rfl <;> exact .inl ⟨_, rfl⟩
  | nofit =>
    obtain ⟨a, g1, g2⟩ := h1
    obtain ⟨a', k1, k2⟩ := h2
    refine same_3 (SqT.of g1) (SqT.of k1) (same_str _) (same_flt g2 k2 (by show 3 ≤ 1000; decide) fun v hv => ?_) same_non
    simp only [List.mem_cons, List.not_mem_nil, or_false] at hv
    rcases hv with rfl | rfl | rfl <;> exact .inr (.inr (.inl ⟨_, rfl⟩))
  | made ps l k =>
    obtain ⟨a, b, c, g1, g2, g3, g4⟩ := h1
    obtain ⟨a', b', c', k1, k2, k3, k4⟩ := h2
    obtain ⟨l1, l2, l3, _⟩ := hs
    exact same_5 (SqT.of g1) (SqT.of k1) (same_str _) (same_stepsT g2 k2 (by omega)) (same_strs g3 k3 (by omega)) (same_strs g4 k4 (by omega)) (same_str _)
theorem OutV.bt {K : PySem.W.Frag} {H H' : Hp} {o : Out} {q t : Addr} (h : OutV K H o t) (hq : ∃ l, H q = some (.lst l)) (b : Bt q H H') : OutV K H' o t := by
  have tp : ∀ {c : Addr} {xs : List V}, H c = some (.tup xs) → H' c = some (.tup xs) := fun {c xs} e => b _ _ (fun z => by obtain ⟨l, hl⟩ := hq; rw [z, hl] at e; cases e) e
  cases o with
  | bad c =>
    obtain ⟨u, v, h1, h2, h3⟩ := h
    exact ⟨u, v, tp h1, tp h2, tp h3⟩
  | nofit =>
    obtain ⟨u, h1, h2⟩ := h
    exact ⟨u, tp h1, tp h2⟩
  | made ps l k =>
    obtain ⟨u, v, w, h1, h2, h3, h4⟩ := h
    exact ⟨u, v, w, tp h1, h2.bt (NT.lst hq) b, SqT.bt h3 (NT.lst hq) b, SqT.bt h4 (NT.lst hq) b⟩
theorem due_shrt {zs : List Str} {cs : List Nat} {n : Int} {o : Out} (h : DueIs zs cs n o) (l : zs.length ≤ 100) : OutShrt o := by
  rcases h with ⟨_, _, _, _, _, _, _, rfl⟩ | ⟨_, ⟨_, _, rfl, _⟩ | ⟨c, g, _, rfl⟩⟩
  · trivial
  · trivial
  · unfold ofAcc
    split
    · exact acc_shrt g l
    · trivial
theorem due_ex {zs : List Str} {cs : List Nat} {n : Int} (h : cs.length = zs.length) : ∃ o, DueIs zs cs n o := by
  by_cases c : ∀ s ∈ zs, s ∉ strangeL
  · rcases stuck_or (ok := isName) (ws := zs) zs.length (Nat.le_refl _) with ⟨i, st⟩ | ⟨a, g⟩
    · exact ⟨_, .inr ⟨c, .inl ⟨i, st, rfl, fun h1 => by omega, fun h1 => by omega⟩⟩⟩
    · by_cases e : okEnd a.g = true
      · exact ⟨_, .inr ⟨c, .inr ⟨a, g, e, rfl⟩⟩⟩
      · exact ⟨_, .inr ⟨c, .inl ⟨zs.length, ⟨a, g, .inl ⟨rfl, Bool.eq_false_iff.mpr e⟩⟩, rfl, fun h1 => by omega, fun h1 => by omega⟩⟩⟩
  · have : ∃ (k : Nat) (w : Str), zs[k]? = some w ∧ w ∈ strangeL ∧ ∀ (j : Nat) (y : Str), j < k → zs[j]? = some y → y ∉ strangeL := by
      clear h
      induction zs with
      | nil => exact absurd (fun _ h => nomatch h) c
      | cons a r ih =>
        by_cases ha : a ∈ strangeL
        · exact ⟨0, a, rfl, ha, fun j y hj => absurd hj (Nat.not_lt_zero j)⟩
        · obtain ⟨k, w, h1, h2, h3⟩ := ih fun h => c fun s hs => (List.mem_cons.mp hs).elim (fun e => e ▸ ha) (h s)
          refine ⟨k + 1, w, h1, h2, fun j y hj e => ?_⟩
          cases j with
          | zero => cases e; exact ha
          | succ j => exact h3 j y (by omega) e
    obtain ⟨k, w, e1, e2, e3⟩ := this
    obtain ⟨col, hc⟩ : ∃ c, cs[k]? = some c := ⟨_, List.getElem?_eq_getElem (by rw [h]; exact (List.getElem?_eq_some_iff.mp e1).1)⟩
    exact ⟨_, .inl ⟨k, w, col, e1, e2, e3, hc, rfl⟩⟩
theorem Wild.len12 {cs : List Str} {ps : List Stp} (w : Wild cs ps) (l : cs.length ≤ 4) : ps.length ≤ 12 := by
  have sub : ∀ s ∈ ps, s ∈ cs.flatMap fun k => deeds.map fun d => ((d, k) : Stp) := fun s hs => by
    refine List.mem_flatMap.mpr ⟨s.2, w.sub s hs, List.mem_map.mpr ⟨s.1, w.g.dd s hs, rfl⟩⟩
  have h1 : ps.length ≤ (cs.flatMap fun k => deeds.map fun d => ((d, k) : Stp)).length := w.g.nd.length_le_of_subset sub
  have h2 : ∀ (cs : List Str), (cs.flatMap fun k => deeds.map fun d => ((d, k) : Stp)).length = 3 * cs.length := fun cs => by
    induction cs with
    | nil => rfl
    | cons a r ih =>
      rw [List.flatMap_cons, List.length_append, ih, List.length_map]
      show 3 + 3 * r.length = 3 * (r.length + 1)
      omega
  rw [h2] at h1
  omega
theorem nodup_le4 {zs cs : List Str} (n : zs.Nodup) (h : ∀ z ∈ zs, z ∈ cs) (l : cs.length ≤ 4) : zs.length ≤ 4 := Nat.le_trans (n.length_le_of_subset h) l
theorem nm_marks : (∀ d ∈ deeds, ¬ (d = "," ∨ d = ";")) ∧ (∀ z ∈ strangeL, z ∉ poolL) ∧ isName "," = false ∧ isName ";" = false := by decide +kernel
theorem nm_name {z : Str} (h : isName z = true) : NM z := fun e => by
  rcases e with e | e
  · rw [e, nm_marks.2.2.1] at h; cases h
  · rw [e, nm_marks.2.2.2] at h; cases h
theorem Wild.mem {cs lk kp : List Str} {ps : List Stp} (w : Wild cs ps) (l : ∀ z ∈ lk, z ∈ cs) (k : ∀ z ∈ kp, z ∈ cs) : ∀ z ∈ planNames ps lk kp, z ∈ cs := fun z hz => by
  unfold planNames at hz
  rcases List.mem_append.mp hz with h | h
  · rcases List.mem_append.mp h with h | h
    · obtain ⟨s, hs, rfl⟩ := List.mem_map.mp h
      exact w.sub s hs
    · exact l z h
  · exact k z h
/-- what the law holds on to -/
structure Mn (K : PySem.W.Frag) (H : Hp) (st scr p R X Y x d : Addr) (zs : List Str) (ps : List Stp) (lk kp : List Str) (o : Out) : Prop where
  dr : DrAt H st scr
  p : H p = some (.lst (zs.map V.str))
  r : ∃ us, H R = some (.lst us) ∧ PairsIn K H us ps
  l : H X = some (.lst (lk.map V.str))
  m : H Y = some (.lst (kp.map V.str))
  pl : PlAt K H x ps (among ps lk) (among ps kp)
  due : OutV K H o d
theorem Mn.same {K : PySem.W.Frag} {H H' : Hp} {st scr p R X Y x d : Addr} {zs : List Str} {ps : List Stp} {lk kp : List Str} {o : Out} (h : Mn K H st scr p R X Y x d zs ps lk kp o) (s : Same H H') : Mn K H' st scr p R X Y x d zs ps lk kp o := by
  obtain ⟨us, e, hu⟩ := h.r
  exact ⟨h.dr.new s, s _ _ h.p, ⟨us, s _ _ e, pairs_same hu s⟩, s _ _ h.l, s _ _ h.m, h.pl.same s, h.due.same s⟩
theorem Mn.bt {K : PySem.W.Frag} {H H' : Hp} {q st scr p R X Y x d : Addr} {zs : List Str} {ps : List Stp} {lk kp : List Str} {o : Out} (h : Mn K H st scr p R X Y x d zs ps lk kp o) (hq : ∃ l, H q = some (.lst l)) (b : Bt q H H') (dr : DrAt H' st scr) (n1 : p ≠ q) (n2 : R ≠ q) (n3 : X ≠ q) (n4 : Y ≠ q) : Mn K H' st scr p R X Y x d zs ps lk kp o :=
  ⟨dr, b _ _ n1 h.p, stL_bt h.r n2 hq b, b _ _ n3 h.l, b _ _ n4 h.m, h.pl.bt hq b, h.due.bt hq b⟩
theorem take_map {zs : List Str} (k : Nat) : (zs.map V.str).take k = (zs.take k).map V.str := (List.map_take ..).symm
theorem four_nat {r : Int} (r0 : 0 ≤ r) (r1 : r < 4) : 1 ≤ (4 - r).toNat ∧ (4 - r).toNat ≤ 4 ∧ 0 ≤ 4 - r := by omega
end
section
variable {P : Program} {w : World} {K : PySem.W.Frag} {mg : Str → Option Value} {base : Heap}
variable {t_DIGITS t_LETTERS t_LONGEST_NAME : Tok} {a_DEEDS a_MARKS a_RESERVED a_SIGNS a_BadName a_BadPlan a_BadText a_ElseputError a_Plan a_Reader : Addr}
theorem ok_law {f : Addr} {fd : FuncData} {f__law_state : Addr} {fd__law_state : FuncData} {f__law_names : Addr} {fd__law_names : FuncData} {f__law_wild_steps : Addr} {fd__law_wild_steps : FuncData} {f__law_mixed : Addr} {fd__law_mixed : FuncData} {f__law_text : Addr} {fd__law_text : FuncData} {f__law_parts : Addr} {fd__law_parts : FuncData} {f__law_due : Addr} {fd__law_due : FuncData} {f__law_same : Addr} {fd__law_same : FuncData} {f__law_some : Addr} {fd__law_some : FuncData} {f__law_bent_rows : Addr} {fd__law_bent_rows : FuncData} {f__law_bent : Addr} {fd__law_bent : FuncData} {f__law_line : Addr} {fd__law_line : FuncData} {f__law_read : Addr} {fd__law_read : FuncData} {f__law_draw : Addr} {fd__law_draw : FuncData} {f_Plan___init__ : Addr} {fd_Plan___init__ : FuncData} {e1_Plan___init__ e2_Plan___init__ : Addr} {f_Plan_text : Addr} {fd_Plan_text : FuncData} (F : Fun K "law" "law" s_law f fd) (T : Gs K mg t_DIGITS t_LETTERS t_LONGEST_NAME a_DEEDS a_MARKS a_RESERVED a_SIGNS a_BadName a_BadPlan a_BadText a_ElseputError a_Plan a_Reader) (c__law_state : Cal P w K mg base CX0 1 "_law_state" f__law_state fd__law_state ["_law_script"] (sp__law_state K)) (c__law_names : Cal P w K mg base CX0 2 "_law_names" f__law_names fd__law_names ["_law_state_here", "_law_many"] (sp__law_names K)) (c__law_wild_steps : Cal P w K mg base CX0 3 "_law_wild_steps" f__law_wild_steps fd__law_wild_steps ["_law_state_here", "_law_carried"] (sp__law_wild_steps K)) (c__law_mixed : Cal P w K mg base CX0 2 "_law_mixed" f__law_mixed fd__law_mixed ["_law_state_here", "_law_row"] (sp__law_mixed K)) (c__law_text : Cal P w K mg base CX0 1 "_law_text" f__law_text fd__law_text ["_law_steps", "_law_row_keys", "_law_held_keys"] (sp__law_text K)) (c__law_parts : Cal P w K mg base CX0 1 "_law_parts" f__law_parts fd__law_parts ["_law_steps", "_law_row_keys", "_law_held_keys"] (sp__law_parts K)) (c__law_due : Cal P w K mg base CX0 2 "_law_due" f__law_due fd__law_due ["_law_line_here", "_law_columns", "_law_parts_here", "_law_names_here"] (sp__law_due K)) (c__law_same : Cal P w K mg base CX0 26 "_law_same" f__law_same fd__law_same ["_law_actual", "_law_due_here"] (sp__law_same K)) (c__law_some : Cal P w K mg base CX0 2 "_law_some" f__law_some fd__law_some ["_law_state_here", "_law_row", "_law_share"] (sp__law_some K)) (c__law_bent_rows : Cal P w K mg base CX0 3 "_law_bent_rows" f__law_bent_rows fd__law_bent_rows ["_law_state_here", "_law_rows", "_law_names_here"] (sp__law_bent_rows K)) (c__law_bent : Cal P w K mg base CX0 3 "_law_bent" f__law_bent fd__law_bent ["_law_state_here", "_law_rows", "_law_names_here"] (sp__law_bent K)) (c__law_line : Cal P w K mg base CX0 2 "_law_line" f__law_line fd__law_line ["_law_state_here", "_law_parts_here"] (sp__law_line K)) (c__law_read : Cal P w K mg base CX0 9 "_law_read" f__law_read fd__law_read ["_law_line_here"] (sp__law_read K)) (c__law_draw : Cal P w K mg base CX0 1 "_law_draw" f__law_draw fd__law_draw ["_law_state_here", "_law_many"] (sp__law_draw K)) (c_Plan___init__ : CalK P w K mg base (L2.CX P w) 4 "Plan" a_Plan f_Plan___init__ fd_Plan___init__ ["self", "steps", "locked", "kept"] 2 "locked" "kept" e1_Plan___init__ e2_Plan___init__ (sp_Plan___init__ K)) (c_Plan_text : CalM P w K mg base CX0 1 a_Plan "text" f_Plan_text fd_Plan_text ["self"] (sp_Plan_text K)) : FnOk P w K mg base CX0 60 f fd ["_law_script"] (sp_law K) := by
  refine F.ok sc_law (fun vs H Q E h => len_law h) (fun cdv A outer s H vs Q E hr h => ?_)
  obtain ⟨a, ns, rfl, hS, hl, q⟩ := h
  refine ⟨_, (pss_cons (ps_set (i := 1) sc_law.nd rfl (.inl rfl) (pe_call c__law_state.G (hr.mono (by first | decide | omega)) rfl c__law_state.m c__law_state.kp c__law_state.b .nil pass0 (pa_cons (v_ 0) pa_nil))) (pss_cons (ps_set (i := 2) sc_law.nd rfl (.inl rfl) (pe_call c__law_names.G (hr.mono (by first | decide | omega)) rfl c__law_names.m c__law_names.kp c__law_names.b .nil pass0 (pa_cons (v_ 1) (pa_cons pe_int pa_nil)))) (pss_cons (ps_set (i := 3) sc_law.nd rfl (.inl rfl) (pe_slice (slK K) (v_ 2) po_none (po_some (pe_op op_subM pe_int (pe_call c__law_draw.G (hr.mono (by first | decide | omega)) rfl c__law_draw.m c__law_draw.kp c__law_draw.b .nil pass0 (pa_cons (v_ 1) (pa_cons pe_int pa_nil))))))) (pss_cons (ps_set (i := 4) sc_law.nd rfl (.inl rfl) (pe_call c__law_wild_steps.G (hr.mono (by first | decide | omega)) rfl c__law_wild_steps.m c__law_wild_steps.kp c__law_wild_steps.b .nil pass0 (pa_cons (v_ 1) (pa_cons (v_ 3) pa_nil)))) (pss_cons (ps_set (i := 5) sc_law.nd rfl (.inl rfl) (pe_call c__law_mixed.G (hr.mono (by first | decide | omega)) rfl c__law_mixed.m c__law_mixed.kp c__law_mixed.b .nil pass0 (pa_cons (v_ 1) (pa_cons (pe_call c__law_some.G (hr.mono (by first | decide | omega)) rfl c__law_some.m c__law_some.kp c__law_some.b .nil pass0 (pa_cons (v_ 1) (pa_cons (v_ 3) (pa_cons pe_int pa_nil)))) pa_nil)))) (pss_cons (ps_set (i := 6) sc_law.nd rfl (.inl rfl) (pe_call c__law_mixed.G (hr.mono (by first | decide | omega)) rfl c__law_mixed.m c__law_mixed.kp c__law_mixed.b .nil pass0 (pa_cons (v_ 1) (pa_cons (pe_call c__law_some.G (hr.mono (by first | decide | omega)) rfl c__law_some.m c__law_some.kp c__law_some.b .nil pass0 (pa_cons (v_ 1) (pa_cons (v_ 3) (pa_cons pe_int pa_nil)))) pa_nil)))) (pss_cons (ps_set (i := 7) sc_law.nd rfl (.inl rfl) (pe_call c__law_text.G (hr.mono (by first | decide | omega)) rfl c__law_text.m c__law_text.kp c__law_text.b .nil pass0 (pa_cons (v_ 4) (pa_cons (v_ 5) (pa_cons (v_ 6) pa_nil))))) (pss_cons (ps_set (i := 8) sc_law.nd rfl (.inl rfl) (pe_mkAll c_Plan___init__ (hr.mono (by first | decide | omega)) rfl passL (pa_cons (pe_callTy (listK K) (by rfl) T.z_list (by decide +kernel) (pa_cons (v_ 4) pa_nil)) pa_nil) (pk_cons (pe_callTy (listK K) (by rfl) T.z_list (by decide +kernel) (pa_cons (v_ 5) pa_nil)) (pk_cons (pe_callTy (listK K) (by rfl) T.z_list (by decide +kernel) (pa_cons (v_ 6) pa_nil)) pk_nil)))) (pss_cons (ps_if (pt_not (pt_t K (pe_call c__law_same.G (hr.mono (by first | decide | omega)) rfl c__law_same.m c__law_same.kp c__law_same.b .nil pass0 (pa_cons (pe_meth0 (v_ 8) c_Plan_text.cl c_Plan_text.me c_Plan_text.G (hr.mono (by first | decide | omega)) c_Plan_text.b .nil pass0) (pa_cons (v_ 7) pa_nil))))) (pss_one (ps_ret pe_bl)) pss_nil) (pss_cons (ps_set (i := 9) sc_law.nd rfl (.inl rfl) (pe_call c__law_parts.G (hr.mono (by first | decide | omega)) rfl c__law_parts.m c__law_parts.kp c__law_parts.b .nil pass0 (pa_cons (v_ 4) (pa_cons (v_ 5) (pa_cons (v_ 6) pa_nil))))) (pss_cons (ps_set (i := 10) sc_law.nd rfl (.inl rfl) (pe_call c__law_due.G (hr.mono (by first | decide | omega)) rfl c__law_due.m c__law_due.kp c__law_due.b .nil pass0 (pa_cons (v_ 7) (pa_cons (pe_lst pa_nil) (pa_cons (v_ 9) (pa_cons (v_ 2) pa_nil)))))) (pss_cons (ps_if (PW.pt (pw_or (pt_c (neK K hr.units) (e_x K (v_ 10) pe_int) pe_str) (pw_or1 (pt_not (pt_t K (pe_call c__law_same.G (hr.mono (by first | decide | omega)) rfl c__law_same.m c__law_same.kp c__law_same.b .nil pass0 (pa_cons (pe_call c__law_read.G (hr.mono (by first | decide | omega)) rfl c__law_read.m c__law_read.kp c__law_read.b .nil pass0 (pa_cons (v_ 7) pa_nil)) (pa_cons (v_ 10) pa_nil)))))))) (pss_one (ps_ret pe_bl)) pss_nil) (pss_cons (ps_if (pt_not (pt_t K (pe_call c__law_same.G (hr.mono (by first | decide | omega)) rfl c__law_same.m c__law_same.kp c__law_same.b .nil pass0 (pa_cons (pe_call c__law_read.G (hr.mono (by first | decide | omega)) rfl c__law_read.m c__law_read.kp c__law_read.b .nil pass0 (pa_cons (e_x K (pe_call c__law_line.G (hr.mono (by first | decide | omega)) rfl c__law_line.m c__law_line.kp c__law_line.b .nil pass0 (pa_cons (v_ 1) (pa_cons (v_ 9) pa_nil))) pe_int) pa_nil)) (pa_cons (v_ 10) pa_nil))))) (pss_one (ps_ret pe_bl)) pss_nil) (pss_cons (ps_for PassesOwn.never rfl (pi_range1 rfl T.z_range (pa_cons pe_int pa_nil)) (pg_name (i := 11) sc_law.nd rfl (.inl rfl)) (pss_cons (ps_set (i := 12) sc_law.nd rfl (.inl rfl) (pe_call c__law_bent_rows.G (hr.mono (by first | decide | omega)) rfl c__law_bent_rows.m c__law_bent_rows.kp c__law_bent_rows.b .nil pass0 (pa_cons (v_ 1) (pa_cons (pe_tup (pa_cons (v_ 4) (pa_cons (v_ 5) (pa_cons (v_ 6) pa_nil)))) (pa_cons (v_ 2) pa_nil))))) (pss_cons (ps_set (i := 9) sc_law.nd rfl (.inl rfl) (pe_call c__law_bent.G (hr.mono (by first | decide | omega)) rfl c__law_bent.m c__law_bent.kp c__law_bent.b .nil pass0 (pa_cons (v_ 1) (pa_cons (v_ 12) (pa_cons (v_ 2) pa_nil))))) (pss_cons (ps_asg (pe_call c__law_line.G (hr.mono (by first | decide | omega)) rfl c__law_line.m c__law_line.kp c__law_line.b .nil pass0 (pa_cons (v_ 1) (pa_cons (v_ 9) pa_nil))) (pg_tup (by rfl) (pgs_cons (pg_name (i := 7) sc_law.nd rfl (.inl rfl)) (pgs_cons (pg_name (i := 13) sc_law.nd rfl (.inl rfl)) pgs_nil)))) (pss_one (ps_if (pt_not (pt_t K (pe_call c__law_same.G (hr.mono (by first | decide | omega)) rfl c__law_same.m c__law_same.kp c__law_same.b .nil pass0 (pa_cons (pe_call c__law_read.G (hr.mono (by first | decide | omega)) rfl c__law_read.m c__law_read.kp c__law_read.b .nil pass0 (pa_cons (v_ 7) pa_nil)) (pa_cons (pe_call c__law_due.G (hr.mono (by first | decide | omega)) rfl c__law_due.m c__law_due.kp c__law_due.b .nil pass0 (pa_cons (v_ 7) (pa_cons (v_ 13) (pa_cons (v_ 9) (pa_cons (v_ 2) pa_nil))))) pa_nil))))) (pss_one (ps_ret pe_bl)) pss_nil)))))) (pss_one (ps_ret (pe_call c__law_same.G (hr.mono (by first | decide | omega)) rfl c__law_same.m c__law_same.kp c__law_same.b .nil pass0 (pa_cons (pe_call c__law_read.G (hr.mono (by first | decide | omega)) rfl c__law_read.m c__law_read.kp c__law_read.b .nil pass0 (pa_cons (pe_meth0 (v_ 8) c_Plan_text.cl c_Plan_text.me c_Plan_text.G (hr.mono (by first | decide | omega)) c_Plan_text.b .nil pass0) pa_nil)) (pa_cons (v_ 10) pa_nil))))))))))))))))))), ?_⟩
  refine ⟨a, ns, rfl, hS, hl, fun H1 st scr s1 n1 n2 d1 => ?_⟩
  refine ⟨st, scr, 5, rfl, d1, by decide, fun H2 p zs b2 d2 np hp lz hz nz => ?_⟩
  have pst : p ≠ st := d1.ne_new np
  clear b2 d1 s1 hS n1 n2 np
  -- the keys
  refine ⟨st, scr, 4, rfl, d2, by decide, many_small (by decide) (by decide), fun r l r0 r1 d3 => ?_⟩
  obtain ⟨f1, f2, f0⟩ := four_nat r0 r1
  have hp3 : upd H2 st (.lst l) p = some (.lst (zs.map V.str)) := by rw [upd_ne pst]; exact hp
  generalize upd H2 st (.lst l) = H3 at d3 hp3 ⊢
  refine ⟨4 - r, rfl, .inl ⟨_, SqL.of hp3, fun u nu => ?_⟩⟩
  rw [cutV_take _ f0, take_map]
  have us : u ≠ st := d3.ne_new nu
  have sm := same_new (o := .lst ((zs.take (4 - r).toNat).map V.str)) nu
  have hu : (upd H3 u (.lst ((zs.take (4 - r).toNat).map V.str))) u = some (.lst ((zs.take (4 - r).toNat).map V.str)) := upd_same
  have hp4 := sm _ _ hp3
  have d4 := d3.new sm
  generalize upd H3 u (.lst ((zs.take (4 - r).toNat).map V.str)) = H4 at hu d4 hp4 ⊢
  have lc : (zs.take (4 - r).toNat).length ≤ 4 ∧ zs.take (4 - r).toNat ≠ [] := ⟨by rw [List.length_take]; omega, fun e => by have := congrArg List.length e; rw [List.length_take, List.length_nil] at this; omega⟩
  have nc : (zs.take (4 - r).toNat).Nodup := nz.sublist (List.take_sublist _ _)
  have cz : ∀ z ∈ zs.take (4 - r).toNat, z ∈ zs := fun z h => List.mem_of_mem_take h
  have hc : ∀ z ∈ zs.take (4 - r).toNat, isName z = true ∧ z.length ≤ 12 := fun z h => hz z (List.mem_of_mem_take h)
  generalize zs.take (4 - r).toNat = cs at hu lc nc hc cz
  clear sm d3 hp3 nu f1 f2 f0 r0 r1 d2 hp
  -- the steps
  refine ⟨st, scr, u, cs, rfl, d4, hu, us, nc, lc.1, fun H5 R ps b5 d5 nR hR w => ?_⟩
  have Rst : R ≠ st := d4.ne_new nR
  have hp5 := b5 _ _ pst hp4
  have hu5 := b5 _ _ us hu
  clear b5 d4 hu hp4 nR
  -- the keys to lock
  refine ⟨st, scr, u, 2, cs, rfl, d5, hu5, us, by omega, by decide, by decide, fun H6 D1 l1 b6 d6 nD1 hD1 sl1 => ?_⟩
  have ll1 := sl1.length_le
  refine ⟨st, scr, D1, l1.map V.str, rfl, d6, hD1, d5.ne_new nD1, by rw [List.length_map]; omega, fun H7 X ys b7 d7 nX hX pm => ?_⟩
  obtain ⟨lk, eys, pmS⟩ := perm_strs pm
  subst eys
  have Xst : X ≠ st := d6.ne_new nX
  have b67 := b6.trans b7
  have hp7 := b67 _ _ pst hp5
  have hu7 := b67 _ _ us hu5
  have hR7 := stL_bt hR Rst d5.lst b67
  have lnd : lk.Nodup := pmS.nodup_iff.mpr (nc.sublist sl1)
  have lcs : ∀ z ∈ lk, z ∈ cs := fun z h => sl1.subset (pmS.mem_iff.mp h)
  have lll : lk.length ≤ 4 := by rw [pmS.length_eq]; omega
  clear b6 b7 b67 d6 d5 nD1 hD1 sl1 ll1 nX pm pmS hp5 hu5 hR
  -- the keys to keep
  refine ⟨st, scr, u, 3, cs, rfl, d7, hu7, us, by omega, by decide, by decide, fun H6 D1 l1 b6 d6 nD1 hD1 sl1 => ?_⟩
  have ll1 := sl1.length_le
  refine ⟨st, scr, D1, l1.map V.str, rfl, d6, hD1, d7.ne_new nD1, by rw [List.length_map]; omega, fun H8 Y ys b8 d8 nY hY pm => ?_⟩
  obtain ⟨kp, eys, pmS⟩ := perm_strs pm
  subst eys
  have Yst : Y ≠ st := d6.ne_new nY
  have b68 := b6.trans b8
  have hp8 := b68 _ _ pst hp7
  have hX8 := b68 _ _ Xst hX
  have hR8 := stL_bt hR7 Rst d7.lst b68
  have knd : kp.Nodup := pmS.nodup_iff.mpr (nc.sublist sl1)
  have kcs : ∀ z ∈ kp, z ∈ cs := fun z h => sl1.subset (pmS.mem_iff.mp h)
  have kll : kp.length ≤ 4 := by rw [pmS.length_eq]; omega
  clear b6 b8 b68 d6 d7 nD1 hD1 sl1 ll1 nY pm pmS hp7 hu7 hR7 hX
  have few := w.len12 lc.1
  have hnz : ∀ z ∈ zs, isName z = true := fun z h => (hz z h).1
  have hcn : ∀ z ∈ cs, isName z = true := fun z h => (hc z h).1
  have hps : ∀ s ∈ ps, s.1 ∈ deeds ∧ isName s.2 = true := fun s hs => ⟨w.g.dd s hs, hcn _ (w.sub s hs)⟩
  have B0 : Rws K H8 st zs R X Y ps lk kp := ⟨Rst, Xst, Yst, hR8, hX8, hY, fun s hs => ⟨w.g.dd s hs, cz _ (w.sub s hs)⟩, fun z h => cz z (lcs z h), fun z h => cz z (kcs z h)⟩
  have nps := w.ne lc.2
  obtain ⟨c, gc, oc, c1, c2, c3⟩ := go_wds nps hps (fun z h => hcn z (lcs z h)) (fun z h => hcn z (kcs z h))
  have fit : planFits ps lk kp = true := by
    unfold planFits
    rw [w.fits nps, keys_fits w lnd lcs, keys_fits w knd kcs]
    rfl
  have f2 : keysFit ps lk = true ∧ keysFit ps kp = true := ⟨keys_fits w lnd lcs, keys_fits w knd kcs⟩
  have tl : tot ps lk kp ≤ 44 := by unfold tot; omega
  have wl : (wds ps lk kp).length ≤ 50 := by have := wds_len (ps := ps) (lk := lk) (kp := kp); omega
  have wpp : ∀ z ∈ wds ps lk kp, PP zs z := fun z hz => (wds_mem B0.o1 B0.o2 B0.o3 z hz).elim (pp_pool hnz) (pp_name hnz)
  have ofc : ofAcc c = .made ps (among ps lk) (among ps kp) := by
    unfold ofAcc
    rw [c1, c2, c3, if_pos fit]
  have shr : Shrt ps (among ps lk) (among ps kp) := by
    have := acc_shrt gc (by omega)
    rwa [c1, c2, c3] at this
  have noS : ∀ z ∈ wds ps lk kp, z ∉ strangeL := fun z hz hs => by
    rcases wds_mem B0.o1 B0.o2 B0.o3 z hz with h | h
    · exact nm_marks.2.1 z hs h
    · have := (strange_ok z hs).2.2.2.1
      rw [hnz z h] at this
      cases this
  have dueM : ∀ (cs2 : List Nat) (n : Int), DueIs (wds ps lk kp) cs2 n (.made ps (among ps lk) (among ps kp)) := fun cs2 n => .inr ⟨noS, .inr ⟨c, gc, oc, ofc.symm⟩⟩
  obtain ⟨ct, laidT⟩ := txt_laid (lk := among ps lk) (kp := among ps kp) nps (fun s hs => ⟨nm_marks.1 _ (hps s hs).1, nm_name (hps s hs).2⟩) (fun z h => nm_name (hcn z (lcs z (of_decide_eq_true (List.mem_filter.mp h).2)))) (fun z h => nm_name (hcn z (kcs z (of_decide_eq_true (List.mem_filter.mp h).2)))) (fun z hz e => by
    have am : ∀ zs2 : List Str, (∀ z ∈ zs2, z ∈ cs) → ∀ z ∈ among ps zs2, z ∈ zs := fun zs2 h z hz => cz z (h z (of_decide_eq_true (List.mem_filter.mp hz).2))
    have := (wds_mem B0.o1 (am lk lcs) (am kp kcs) z hz).elim (pp_pool hnz) (pp_name hnz)
    have l := len_cps z
    rw [e] at l
    have l : z.length = 0 := l.symm
    have := this.l0
    omega) shr
  -- the text's own pieces
  have lknd : (looked ps).Nodup := by
    unfold looked
    refine List.pairwise_map.mpr ((w.g.nd.sublist (List.filter_sublist)).imp_of_mem fun {a b} ha hb hab e => hab ?_)
    have h1 : a.1 = "look" := of_decide_eq_true (List.mem_filter.mp ha).2
    have h2 : b.1 = "look" := of_decide_eq_true (List.mem_filter.mp hb).2
    exact Prod.ext (h1.trans h2.symm) e
  have amk : ∀ zs2, keysFit ps (among ps zs2) = true := fun zs2 => by
    unfold keysFit
    rw [Bool.and_eq_true, decide_eq_true_iff, List.all_eq_true]
    exact ⟨lknd.sublist List.filter_sublist, fun z hz => decide_eq_true (mem_looked.mp (List.mem_filter.mp hz).1)⟩
  have amm : ∀ zs2, among ps (among ps zs2) = among ps zs2 := fun zs2 => by
    show (looked ps).filter (fun z => decide (z ∈ (looked ps).filter fun z => decide (z ∈ zs2))) = (looked ps).filter fun z => decide (z ∈ zs2)
    refine List.filter_congr fun z hz => ?_
    rw [Bool.eq_iff_iff, decide_eq_true_iff, decide_eq_true_iff, List.mem_filter, decide_eq_true_iff]
    exact ⟨fun h => h.2, fun h => ⟨hz, h⟩⟩
  have amc : ∀ zs2 : List Str, (∀ z ∈ zs2, z ∈ cs) → ∀ z ∈ among ps zs2, z ∈ cs := fun zs2 h z hz => h z (of_decide_eq_true (List.mem_filter.mp hz).2)
  obtain ⟨c', gc', oc', e1', e2', e3'⟩ := go_wds nps hps (fun z h => hcn z (amc lk lcs z h)) (fun z h => hcn z (amc kp kcs z h))
  have wmT := wds_mem B0.o1 (fun z h => cz z (amc lk lcs z h)) (fun z h => cz z (amc kp kcs z h))
  have ppT : ∀ z ∈ wds ps (among ps lk) (among ps kp), PP zs z := fun z hz => (wmT z hz).elim (pp_pool hnz) (pp_name hnz)
  have noT : ∀ z ∈ wds ps (among ps lk) (among ps kp), z ∉ strangeL := fun z hz hs => by
    rcases wmT z hz with h | h
    · exact nm_marks.2.1 z hs h
    · have := (strange_ok z hs).2.2.2.1
      rw [hnz z h] at this
      cases this
  have ofc' : ofAcc c' = .made ps (among ps lk) (among ps kp) := by
    have fit' : planFits ps (among ps lk) (among ps kp) = true := by
      unfold planFits
      rw [w.fits nps, amk, amk]
      rfl
    unfold ofAcc
    rw [e1', e2', e3', if_pos fit', amm, amm]
  have alen : ∀ zs2, (among ps zs2).length ≤ 12 := fun zs2 => Nat.le_trans (List.length_filter_le _ _) (Nat.le_trans looked_len few)
  have lT : (wds ps (among ps lk) (among ps kp)).length < 64 := by
    have h1 := wds_len (ps := ps) (lk := among ps lk) (kp := among ps kp)
    have h2 : (among ps lk).length ≤ 4 := nodup_le4 (lknd.sublist List.filter_sublist) (amc lk lcs) lc.1
    have h3 : (among ps kp).length ≤ 4 := nodup_le4 (lknd.sublist List.filter_sublist) (amc kp kcs) lc.1
    unfold tot at h1
    omega
  have outT : OutIs (txt ps (among ps lk) (among ps kp)) (.made ps (among ps lk) (among ps kp)) := due_out laidT (fun s hs hn => (ppT s hs).t hn) (.inr ⟨noT, .inr ⟨c', gc', oc', ofc'.symm⟩⟩)
  have preT : LinePre (txt ps (among ps lk) (among ps kp)) := laid_pre laidT (fun s hs hn => (ppT s hs).t hn) (fun s hs => (ppT s hs).l1) lT
  clear laidT ppT noT wmT gc' oc' e1' e2' e3' ofc' c' alen lT amc amm amk lknd gc oc c1 c2 c3 ofc noS
  have tlen := txt_len shr
  have shrO : OutShrt (.made ps (among ps lk) (among ps kp)) := shr
  -- the text
  refine ⟨R, X, Y, ps, lk, kp, rfl, hR8, hX8, hY, shr, among_ne f2.1, among_ne f2.2, fun H9 s9 => ?_⟩
  obtain ⟨vs, hRv, hpv⟩ := id hR8
  have hR9 := s9 _ _ hRv
  have hp9 := pairs_same hpv s9
  have hX9 := s9 _ _ hX8
  have hY9 := s9 _ _ hY
  have hz9 := s9 _ _ hp8
  have d9 := d8.new s9
  clear hRv hpv hX8 hY hp8 d8 s9 hR8 B0
  -- the plan
  refine ⟨R, vs, rfl, .inl (SqL.of hR9), fun L0 m0 => ?_⟩
  have q0 := same_new (o := .lst vs) m0
  refine ⟨X, _, rfl, .inl (SqL.of (q0 _ _ hX9)), fun L1 m1 => ?_⟩
  have q1 := same_new (o := .lst (lk.map V.str)) m1
  have q01 := q0.trans q1
  refine ⟨Y, _, rfl, .inl (SqL.of (q01 _ _ hY9)), fun L2 m2 => ?_⟩
  have q2 := same_new (o := .lst (kp.map V.str)) m2
  have q02 := q01.trans q2
  refine ⟨rfl, rfl, ?_⟩
  refine fun x dx nx nd ne => made_plan nx nd ne T.n_Plan (lk := lk) (kp := kp) ⟨vs, SqL.of (q2 _ _ (q1 _ _ upd_same)), pairs_same hp9 q02⟩ (.inr (SqL.of (q2 _ _ upd_same))) (.inr (SqL.of upd_same)) (by omega) (by omega) (by omega) (w.names hc lcs kcs) ?_
  refine w.plan lc.2 (fun z h => (hc z h).1) ⟨lnd, lcs⟩ ⟨knd, kcs⟩ fun H10 s10 hx => ⟨rfl, ?_⟩
  have sA := q02.trans s10
  have hR10 := sA _ _ hR9
  have hp10 := pairs_same hp9 sA
  have hX10 := sA _ _ hX9
  have hY10 := sA _ _ hY9
  have hz10 := sA _ _ hz9
  have d10 := d9.new sA
  clear q0 q1 q2 q01 q02 m0 m1 m2 nx nd ne s10 sA hR9 hp9 hX9 hY9 hz9 d9
  obtain ⟨C, dx2, t1, l1, k1, hC, ha, _⟩ := id hx
  cases hC.symm.trans T.n_Plan
  refine ⟨x, dx2, _, rfl, ha, rfl, x, ps, _, _, rfl, hx, shr, fun H11 s11 => ?_⟩
  refine ⟨_, _, rfl, same_str _, ?_⟩
  refine ite2 (fun e => nomatch e) (fun _ => ?_)
  -- the pieces
  refine ⟨R, X, Y, ps, lk, kp, rfl, ⟨vs, s11 _ _ hR10, pairs_same hp10 s11⟩, s11 _ _ hX10, s11 _ _ hY10, by omega, by omega, by omega, fun H12 P s12 nP eP => ?_⟩
  have d11 := d10.new s11
  have Ps : P ≠ st := d11.ne_new nP
  have s112 := s11.trans s12
  -- what is due
  refine ⟨Nat.zero_le _, fun c0 nc0 => ?_⟩
  have sc := same_new (o := .lst []) nc0
  have s1c := s112.trans sc
  refine ⟨_, c0, P, p, wds ps lk kp, zs, [], .made ps (among ps lk) (among ps kp), rfl, upd_same, sc _ _ eP, s1c _ _ hz10, by omega, by omega, fun z h => (wpp z h).nm, dueM _ _, fun H13 d s13 hT => ?_⟩
  have sD := s1c.trans s13
  have M : Mn K H13 st scr p R X Y x d zs ps lk kp (.made ps (among ps lk) (among ps kp)) := ⟨d10.new sD, sD _ _ hz10, ⟨vs, sD _ _ hR10, pairs_same hp10 sD⟩, sD _ _ hX10, sD _ _ hY10, hx.same sD, hT⟩
  have eP13 := s13 _ _ (sc _ _ eP)
  clear sD sc s1c s112 s13 s12 s11 d11 eP nc0 hx ha hR10 hp10 hX10 hY10 hz10 d10 nP
  obtain ⟨a1, a2, a3, g1, _⟩ := id hT
  refine ⟨_, .inr (SqT.of g1), _, rfl, ?_⟩
  refine ⟨_, .made ps (among ps lk) (among ps kp), rfl, preT, outT, shr, fun H14 t s14 hT2 => ?_⟩
  have M := M.same s14
  refine ⟨_, _, rfl, out_same shrO hT2 M.due, ?_⟩
  refine ite2 (fun e => nomatch e) (fun _ => ?_)
  have eP14 := s14 _ _ eP13
  clear hT g1 s14 eP13 hT2
  -- the line with spaces
  refine ⟨st, scr, P, wds ps lk kp, rfl, M.dr, eP14, Ps, by omega, fun z h => ⟨(wpp z h).l0, (wpp z h).l1⟩, fun H15 t c line2 cs2 b15 d15 nt ht cst hc2 laid => ?_⟩
  have M := M.bt M.dr.lst b15 d15 pst Rst Xst Yst
  refine ⟨_, .inr (SqT.of ht), _, rfl, ?_⟩
  refine ⟨line2, .made ps (among ps lk) (among ps kp), rfl, laid_pre laid (fun s hs hn => (wpp s hs).t hn) (fun s hs => (wpp s hs).l1) (by omega), due_out laid (fun s hs hn => (wpp s hs).t hn) (dueM _ _), shr, fun H16 t2 s16 hT2 => ?_⟩
  have M := M.same s16
  refine ⟨_, _, rfl, out_same shrO hT2 M.due, ?_⟩
  refine ite2 (fun e => nomatch e) (fun _ => ?_)
  clear ht hc2 laid b15 d15 nt s16 hT2 eP14
  -- bent lines
  refine ⟨5, rfl, by decide, by decide, ?_⟩
  refine for_range (lo := 0) (n := 5) (fun i σ' H' => (∃ ln pa k rw_ co : Option V, σ' = [some (.ref a), some (.ref st), some (.ref p), some (.ref u), some (.ref R), some (.ref X), some (.ref Y), ln, some (.ref x), pa, some (.ref d), k, rw_, co]) ∧ Mn K H' st scr p R X Y x d zs ps lk kp (.made ps (among ps lk) (among ps kp))) ⟨⟨_, _, _, _, _, rfl⟩, M⟩ ?_ ?_
  · clear M
    rintro i σ' H17 hi ⟨⟨ln, pa, k, rw_, co, rfl⟩, M⟩
    refine ⟨(by show 3 ≤ sizeLine; decide), fun t1 nt1 => ?_⟩
    have q1 := same_new (o := .tup [.ref R, .ref X, .ref Y]) nt1
    have M1 := M.same q1
    refine ⟨st, scr, t1, p, R, X, Y, ps, lk, kp, zs, rfl, M1.dr, SqT.of upd_same, M1.p, pst, by omega, by omega, ⟨Rst, Xst, Yst, M1.r, M1.l, M1.m, fun s hs => ⟨w.g.dd s hs, cz _ (w.sub s hs)⟩, fun z h => cz z (lcs z h), fun z h => cz z (kcs z h)⟩, by omega, fun H18 t2 R2 X2 Y2 ps2 lk2 kp2 b18 d18 ht2 B2 tl2 => ?_⟩
    have b18 := (Bt.same (st := st) q1).trans b18
    have z18 := b18 _ _ pst M.p
    refine ⟨st, scr, t2, p, R2, X2, Y2, ps2, lk2, kp2, zs, rfl, d18, ht2, z18, pst, by omega, by omega, hnz, B2, by omega, fun H19 P2 zs2 b19 d19 P2s e19 l19 pp19 => ?_⟩
    refine ⟨st, scr, P2, zs2, rfl, d19, e19, P2s, by omega, fun z h => ⟨(pp19 z h).l0, (pp19 z h).l1⟩, fun H20 t3 c3 line3 cs3 b20 d20 nt3 ht3 c3s hc3 laid => ?_⟩
    have e20 := b20 _ _ P2s e19
    have bb := (b18.trans b19).trans b20
    have z20 := bb _ _ pst M.p
    refine ⟨t3, _, rfl, SqT.of ht3, rfl, _, _, rfl, _, _, rfl, rfl, ?_⟩
    obtain ⟨o, due⟩ := due_ex (n := (line3.length : Int) + 1) laid.len
    have tk3 : ∀ s ∈ zs2, s ∉ strangeL → Tok s.cps.toList := fun s hs hn => (pp19 s hs).t hn
    have pre3 := laid_pre laid tk3 (fun s hs => (pp19 s hs).l1) l19
    have os := due_shrt due (by omega)
    refine ⟨line3, o, rfl, pre3, due_out laid tk3 due, os, fun H21 t4 s21 hT4 => ?_⟩
    refine ⟨line3, c3, P2, p, zs2, zs, cs3, o, rfl, s21 _ _ hc3, s21 _ _ e20, s21 _ _ z20, l19, pre3.1, fun z h => (pp19 z h).nm, due, fun H22 t5 s22 hT5 => ?_⟩
    refine ⟨_, _, rfl, out_same os (hT4.same s22) hT5, ?_⟩
    refine ite2 (fun e => nomatch e) (fun _ => ?_)
    have s2 := s21.trans s22
    exact ⟨⟨_, _, _, _, _, rfl⟩, M.bt M.dr.lst (bb.trans (Bt.same s2)) (d20.new s2) pst Rst Xst Yst⟩
  rintro σ' H17 ⟨⟨ln, pa, k, rw_, co, rfl⟩, M⟩
  obtain ⟨C, dx3, t1, l1, k1, hC, ha, _⟩ := id M.pl
  cases hC.symm.trans T.n_Plan
  refine ⟨x, dx3, _, rfl, ha, rfl, x, ps, _, _, rfl, M.pl, shr, fun H18 s18 => ?_⟩
  refine ⟨_, .made ps (among ps lk) (among ps kp), rfl, preT, outT, shr, fun H19 t s19 hT2 => ?_⟩
  exact ⟨_, _, rfl, out_same shrO hT2 (M.same (s18.trans s19)).due, q _⟩
end
theorem all_mk {l : PySem.W.OpenLaw} {w : World} {K : PySem.W.Frag} {h : Heap} {mg : Str → Option Value} {fa : Addr} {t_DIGITS t_LETTERS t_LONGEST_NAME : Tok} {a_DEEDS a_MARKS a_RESERVED a_SIGNS a_BadName a_BadPlan a_BadText a_ElseputError a_Plan a_Reader : Addr} {f_is_name f_run_end f_token_end f_split_line f_check_name f_looked_at f_step_fits f_steps_fit f_keys_fit f_Reader_at_end f_Reader_ahead f_Reader__refuse f_Reader__take_if f_Reader_take_one f_Reader_take_name f_parse_step f_parse_keys f_Reader_skip f_Reader_take_end f_parse_plan f__law_state f__law_draw f__law_pick f__law_mixed f__law_names f__law_is_int f__law_same f__law_wild_steps f__law_some f__law_text f__law_parts f__law_line f__law_strange f__law_misfit f__law_plan_of f__law_is_plan f__law_due f_Plan_text f_Plan___init__ f_Reader___init__ f_Plan_read f__law_read f__law_bent_rows f__law_bent f_law : Addr} {od_is_name an_is_name : Option Addr} {sl_is_name : Array (Option Value)} {oc_is_name kV_is_name dc_is_name pm_is_name cd_is_name ct_is_name : Value} {od_run_end an_run_end : Option Addr} {sl_run_end : Array (Option Value)} {oc_run_end kV_run_end dc_run_end pm_run_end cd_run_end ct_run_end : Value} {od_token_end an_token_end : Option Addr} {sl_token_end : Array (Option Value)} {oc_token_end kV_token_end dc_token_end pm_token_end cd_token_end ct_token_end : Value} {od_split_line an_split_line : Option Addr} {sl_split_line : Array (Option Value)} {oc_split_line kV_split_line dc_split_line pm_split_line cd_split_line ct_split_line : Value} {od_check_name an_check_name : Option Addr} {sl_check_name : Array (Option Value)} {oc_check_name kV_check_name dc_check_name pm_check_name cd_check_name ct_check_name : Value} {od_looked_at an_looked_at : Option Addr} {sl_looked_at : Array (Option Value)} {oc_looked_at kV_looked_at dc_looked_at pm_looked_at cd_looked_at ct_looked_at : Value} {od_step_fits an_step_fits : Option Addr} {sl_step_fits : Array (Option Value)} {oc_step_fits kV_step_fits dc_step_fits pm_step_fits cd_step_fits ct_step_fits : Value} {od_steps_fit an_steps_fit : Option Addr} {sl_steps_fit : Array (Option Value)} {oc_steps_fit kV_steps_fit dc_steps_fit pm_steps_fit cd_steps_fit ct_steps_fit : Value} {od_keys_fit an_keys_fit : Option Addr} {sl_keys_fit : Array (Option Value)} {oc_keys_fit kV_keys_fit dc_keys_fit pm_keys_fit cd_keys_fit ct_keys_fit : Value} {od_Reader_at_end an_Reader_at_end : Option Addr} {sl_Reader_at_end : Array (Option Value)} {oc_Reader_at_end kV_Reader_at_end dc_Reader_at_end pm_Reader_at_end cd_Reader_at_end ct_Reader_at_end : Value} {od_Reader_ahead an_Reader_ahead : Option Addr} {sl_Reader_ahead : Array (Option Value)} {oc_Reader_ahead kV_Reader_ahead dc_Reader_ahead pm_Reader_ahead cd_Reader_ahead ct_Reader_ahead : Value} {od_Reader__refuse an_Reader__refuse : Option Addr} {sl_Reader__refuse : Array (Option Value)} {oc_Reader__refuse kV_Reader__refuse dc_Reader__refuse pm_Reader__refuse cd_Reader__refuse ct_Reader__refuse : Value} {od_Reader__take_if an_Reader__take_if : Option Addr} {sl_Reader__take_if : Array (Option Value)} {oc_Reader__take_if kV_Reader__take_if dc_Reader__take_if pm_Reader__take_if cd_Reader__take_if ct_Reader__take_if : Value} {od_Reader_take_one an_Reader_take_one : Option Addr} {sl_Reader_take_one : Array (Option Value)} {oc_Reader_take_one kV_Reader_take_one dc_Reader_take_one pm_Reader_take_one cd_Reader_take_one ct_Reader_take_one : Value} {od_Reader_take_name an_Reader_take_name : Option Addr} {sl_Reader_take_name : Array (Option Value)} {oc_Reader_take_name kV_Reader_take_name dc_Reader_take_name pm_Reader_take_name cd_Reader_take_name ct_Reader_take_name : Value} {od_parse_step an_parse_step : Option Addr} {sl_parse_step : Array (Option Value)} {oc_parse_step kV_parse_step dc_parse_step pm_parse_step cd_parse_step ct_parse_step : Value} {od_parse_keys an_parse_keys : Option Addr} {sl_parse_keys : Array (Option Value)} {oc_parse_keys kV_parse_keys dc_parse_keys pm_parse_keys cd_parse_keys ct_parse_keys : Value} {od_Reader_skip an_Reader_skip : Option Addr} {sl_Reader_skip : Array (Option Value)} {oc_Reader_skip kV_Reader_skip dc_Reader_skip pm_Reader_skip cd_Reader_skip ct_Reader_skip : Value} {od_Reader_take_end an_Reader_take_end : Option Addr} {sl_Reader_take_end : Array (Option Value)} {oc_Reader_take_end kV_Reader_take_end dc_Reader_take_end pm_Reader_take_end cd_Reader_take_end ct_Reader_take_end : Value} {od_parse_plan an_parse_plan : Option Addr} {sl_parse_plan : Array (Option Value)} {oc_parse_plan kV_parse_plan dc_parse_plan pm_parse_plan cd_parse_plan ct_parse_plan : Value} {od__law_state an__law_state : Option Addr} {sl__law_state : Array (Option Value)} {oc__law_state kV__law_state dc__law_state pm__law_state cd__law_state ct__law_state : Value} {od__law_draw an__law_draw : Option Addr} {sl__law_draw : Array (Option Value)} {oc__law_draw kV__law_draw dc__law_draw pm__law_draw cd__law_draw ct__law_draw : Value} {od__law_pick an__law_pick : Option Addr} {sl__law_pick : Array (Option Value)} {oc__law_pick kV__law_pick dc__law_pick pm__law_pick cd__law_pick ct__law_pick : Value} {od__law_mixed an__law_mixed : Option Addr} {sl__law_mixed : Array (Option Value)} {oc__law_mixed kV__law_mixed dc__law_mixed pm__law_mixed cd__law_mixed ct__law_mixed : Value} {od__law_names an__law_names : Option Addr} {sl__law_names : Array (Option Value)} {oc__law_names kV__law_names dc__law_names pm__law_names cd__law_names ct__law_names : Value} {od__law_is_int an__law_is_int : Option Addr} {sl__law_is_int : Array (Option Value)} {oc__law_is_int kV__law_is_int dc__law_is_int pm__law_is_int cd__law_is_int ct__law_is_int : Value} {od__law_same an__law_same : Option Addr} {sl__law_same : Array (Option Value)} {oc__law_same kV__law_same dc__law_same pm__law_same cd__law_same ct__law_same : Value} {od__law_wild_steps an__law_wild_steps : Option Addr} {sl__law_wild_steps : Array (Option Value)} {oc__law_wild_steps kV__law_wild_steps dc__law_wild_steps pm__law_wild_steps cd__law_wild_steps ct__law_wild_steps : Value} {od__law_some an__law_some : Option Addr} {sl__law_some : Array (Option Value)} {oc__law_some kV__law_some dc__law_some pm__law_some cd__law_some ct__law_some : Value} {od__law_text an__law_text : Option Addr} {sl__law_text : Array (Option Value)} {oc__law_text kV__law_text dc__law_text pm__law_text cd__law_text ct__law_text : Value} {od__law_parts an__law_parts : Option Addr} {sl__law_parts : Array (Option Value)} {oc__law_parts kV__law_parts dc__law_parts pm__law_parts cd__law_parts ct__law_parts : Value} {od__law_line an__law_line : Option Addr} {sl__law_line : Array (Option Value)} {oc__law_line kV__law_line dc__law_line pm__law_line cd__law_line ct__law_line : Value} {od__law_strange an__law_strange : Option Addr} {sl__law_strange : Array (Option Value)} {oc__law_strange kV__law_strange dc__law_strange pm__law_strange cd__law_strange ct__law_strange : Value} {od__law_misfit an__law_misfit : Option Addr} {sl__law_misfit : Array (Option Value)} {oc__law_misfit kV__law_misfit dc__law_misfit pm__law_misfit cd__law_misfit ct__law_misfit : Value} {od__law_plan_of an__law_plan_of : Option Addr} {sl__law_plan_of : Array (Option Value)} {oc__law_plan_of kV__law_plan_of dc__law_plan_of pm__law_plan_of cd__law_plan_of ct__law_plan_of : Value} {od__law_is_plan an__law_is_plan : Option Addr} {sl__law_is_plan : Array (Option Value)} {oc__law_is_plan kV__law_is_plan dc__law_is_plan pm__law_is_plan cd__law_is_plan ct__law_is_plan : Value} {od__law_due an__law_due : Option Addr} {sl__law_due : Array (Option Value)} {oc__law_due kV__law_due dc__law_due pm__law_due cd__law_due ct__law_due : Value} {od_Plan_text an_Plan_text : Option Addr} {sl_Plan_text : Array (Option Value)} {oc_Plan_text kV_Plan_text dc_Plan_text pm_Plan_text cd_Plan_text ct_Plan_text : Value} {od_Plan___init__ an_Plan___init__ : Option Addr} {sl_Plan___init__ : Array (Option Value)} {oc_Plan___init__ dc_Plan___init__ pm_Plan___init__ cd_Plan___init__ ct_Plan___init__ : Value} {kD_Plan___init__ e1_Plan___init__ e2_Plan___init__ : Addr} {eo1_Plan___init__ : Option Addr} {ei1_Plan___init__ : Array Value} {en1_Plan___init__ : Nat} {el1_Plan___init__ : Array (Option Value)} {eo2_Plan___init__ : Option Addr} {ei2_Plan___init__ : Array Value} {en2_Plan___init__ : Nat} {el2_Plan___init__ : Array (Option Value)} {od_Reader___init__ an_Reader___init__ : Option Addr} {sl_Reader___init__ : Array (Option Value)} {oc_Reader___init__ kV_Reader___init__ dc_Reader___init__ pm_Reader___init__ cd_Reader___init__ ct_Reader___init__ : Value} {dT_Reader___init__ : Addr} {dd_Reader___init__ : Option Addr} {ds_Reader___init__ : Array Value} {dn_Reader___init__ : Nat} {dl_Reader___init__ : Array (Option Value)} {p_Plan_read : Addr} {r_Plan_read : List Value} {od_Plan_read an_Plan_read : Option Addr} {sl_Plan_read : Array (Option Value)} {oc_Plan_read kV_Plan_read dc_Plan_read pm_Plan_read cd_Plan_read ct_Plan_read : Value} {od__law_read an__law_read : Option Addr} {sl__law_read : Array (Option Value)} {oc__law_read kV__law_read dc__law_read pm__law_read cd__law_read ct__law_read : Value} {od__law_bent_rows an__law_bent_rows : Option Addr} {sl__law_bent_rows : Array (Option Value)} {oc__law_bent_rows kV__law_bent_rows dc__law_bent_rows pm__law_bent_rows cd__law_bent_rows ct__law_bent_rows : Value} {od__law_bent an__law_bent : Option Addr} {sl__law_bent : Array (Option Value)} {oc__law_bent kV__law_bent dc__law_bent pm__law_bent cd__law_bent ct__law_bent : Value} {od_law an_law : Option Addr} {sl_law : Array (Option Value)} {oc_law kV_law dc_law pm_law cd_law ct_law : Value} {od_DEEDS : Option Addr} {its_DEEDS : Array Value} {n_DEEDS : Nat} {sl_DEEDS : Array (Option Value)} {od_MARKS : Option Addr} {its_MARKS : Array Value} {n_MARKS : Nat} {sl_MARKS : Array (Option Value)} {od_RESERVED : Option Addr} {its_RESERVED : Array Value} {n_RESERVED : Nat} {sl_RESERVED : Array (Option Value)} {od_SIGNS : Option Addr} {its_SIGNS : Array Value} {n_SIGNS : Nat} {sl_SIGNS : Array (Option Value)} {f_BadName N_BadName cc_BadName cda_BadName : Addr} {nm_BadName q_BadName : Str} {bs_BadName bm_BadName : List Value} {sn_BadName : List Str} {sub_BadName : List Value} {ab_BadName : Bool} {col_BadName : Option Bool} {dd_BadName : Option Addr} {e0_BadName e1_BadName e2_BadName e3_BadName e5_BadName : Option Value} {oc_BadName doc_BadName pm_BadName ct_BadName ccl_BadName cl_BadName : Value} {od_BadName cdd_BadName cld_BadName : Option Addr} {osl_BadName ccs_BadName csl_BadName : Array (Option Value)} {vs_BadName : Array Value} {file_BadName : Str} {tf_BadName : Tok} {cdD_BadName : ClassData} {f_BadText N_BadText cc_BadText cda_BadText : Addr} {nm_BadText q_BadText : Str} {bs_BadText bm_BadText : List Value} {sn_BadText : List Str} {sub_BadText : List Value} {ab_BadText : Bool} {col_BadText : Option Bool} {dd_BadText : Option Addr} {e0_BadText e1_BadText e2_BadText e3_BadText e5_BadText : Option Value} {oc_BadText doc_BadText pm_BadText ct_BadText ccl_BadText cl_BadText : Value} {od_BadText cdd_BadText cld_BadText : Option Addr} {osl_BadText ccs_BadText csl_BadText : Array (Option Value)} {vs_BadText : Array Value} {file_BadText : Str} {tf_BadText : Tok} {cdD_BadText : ClassData} {f_BadPlan N_BadPlan cc_BadPlan cda_BadPlan : Addr} {nm_BadPlan q_BadPlan : Str} {bs_BadPlan bm_BadPlan : List Value} {sn_BadPlan : List Str} {sub_BadPlan : List Value} {ab_BadPlan : Bool} {col_BadPlan : Option Bool} {dd_BadPlan : Option Addr} {e0_BadPlan e1_BadPlan e2_BadPlan e3_BadPlan e5_BadPlan : Option Value} {oc_BadPlan doc_BadPlan pm_BadPlan ct_BadPlan ccl_BadPlan cl_BadPlan : Value} {od_BadPlan cdd_BadPlan cld_BadPlan : Option Addr} {osl_BadPlan ccs_BadPlan csl_BadPlan : Array (Option Value)} {vs_BadPlan : Array Value} {file_BadPlan : Str} {tf_BadPlan : Tok} {cdD_BadPlan : ClassData} (X : K.In h) (G : h.Ns mainGlobals mg) (hfa : mg "law" = some (.ref fa))
    (g_Reader : PySem.W.nsIn K mainGlobals "Reader" = some (some (.ref a_Reader)))
    (pg_Reader : PySem.W.plainGet K a_Reader Str.empty = true)
    (hx_Reader : PySem.W.hasDictIn K a_Reader = true)
    (po_Reader : PySem.W.plainOver K a_Reader = true)
    (st_Reader : PySem.W.findIn K (.ref a_Reader) "__setattr__" = some (some (.builtin "object.__setattr__")))
    (rr_Reader : PySem.W.readsIn K a_Reader (.type "type") = true)
    (rg_Reader : PySem.W.specialIn K (.ref a_Reader) "__getattribute__" = some (some (.builtin "type.__getattribute__")))
    (mi_Reader : PySem.W.makesIn K a_Reader = true)
    (ko_Reader : PySem.W.keepIn K (.ref a_Reader) = true)
    (sf_Reader : PySem.W.selfFirst K a_Reader = true)
    (na_Reader__at : PySem.W.findIn K (.ref a_Reader) "_at" = some none)
    (na_Reader__end : PySem.W.findIn K (.ref a_Reader) "_end" = some none)
    (na_Reader__number : PySem.W.findIn K (.ref a_Reader) "_number" = some none)
    (na_Reader__parts : PySem.W.findIn K (.ref a_Reader) "_parts" = some none)
    (g_Plan : PySem.W.nsIn K mainGlobals "Plan" = some (some (.ref a_Plan)))
    (pg_Plan : PySem.W.plainGet K a_Plan Str.empty = true)
    (hx_Plan : PySem.W.hasDictIn K a_Plan = true)
    (po_Plan : PySem.W.plainOver K a_Plan = true)
    (st_Plan : PySem.W.findIn K (.ref a_Plan) "__setattr__" = some (some (.builtin "object.__setattr__")))
    (rr_Plan : PySem.W.readsIn K a_Plan (.type "type") = true)
    (rg_Plan : PySem.W.specialIn K (.ref a_Plan) "__getattribute__" = some (some (.builtin "type.__getattribute__")))
    (mi_Plan : PySem.W.makesIn K a_Plan = true)
    (ko_Plan : PySem.W.keepIn K (.ref a_Plan) = true)
    (sf_Plan : PySem.W.selfFirst K a_Plan = true)
    (na_Plan_kept : PySem.W.findIn K (.ref a_Plan) "kept" = some none)
    (na_Plan_locked : PySem.W.findIn K (.ref a_Plan) "locked" = some none)
    (na_Plan_steps : PySem.W.findIn K (.ref a_Plan) "steps" = some none)
    (a_is_name : PySem.W.nsIn K mainGlobals "is_name" = some (some (.ref f_is_name)))
    (l_is_name : K.lookup f_is_name = some ⟨oc_is_name, od_is_name, .func (PySem.W.fnOf "is_name" "is_name" (defArgs s_is_name) (defBody s_is_name) (defScope s_is_name) .none kV_is_name dc_is_name pm_is_name an_is_name cd_is_name ct_is_name), sl_is_name⟩)
    (c_is_name : PySem.W.codeIn K cd_is_name "is_name" = true)
    (k_is_name : PySem.W.keepIn K (.ref f_is_name) = true)
    (a_run_end : PySem.W.nsIn K mainGlobals "run_end" = some (some (.ref f_run_end)))
    (l_run_end : K.lookup f_run_end = some ⟨oc_run_end, od_run_end, .func (PySem.W.fnOf "run_end" "run_end" (defArgs s_run_end) (defBody s_run_end) (defScope s_run_end) .none kV_run_end dc_run_end pm_run_end an_run_end cd_run_end ct_run_end), sl_run_end⟩)
    (c_run_end : PySem.W.codeIn K cd_run_end "run_end" = true)
    (k_run_end : PySem.W.keepIn K (.ref f_run_end) = true)
    (a_token_end : PySem.W.nsIn K mainGlobals "token_end" = some (some (.ref f_token_end)))
    (l_token_end : K.lookup f_token_end = some ⟨oc_token_end, od_token_end, .func (PySem.W.fnOf "token_end" "token_end" (defArgs s_token_end) (defBody s_token_end) (defScope s_token_end) .none kV_token_end dc_token_end pm_token_end an_token_end cd_token_end ct_token_end), sl_token_end⟩)
    (c_token_end : PySem.W.codeIn K cd_token_end "token_end" = true)
    (k_token_end : PySem.W.keepIn K (.ref f_token_end) = true)
    (a_split_line : PySem.W.nsIn K mainGlobals "split_line" = some (some (.ref f_split_line)))
    (l_split_line : K.lookup f_split_line = some ⟨oc_split_line, od_split_line, .func (PySem.W.fnOf "split_line" "split_line" (defArgs s_split_line) (defBody s_split_line) (defScope s_split_line) .none kV_split_line dc_split_line pm_split_line an_split_line cd_split_line ct_split_line), sl_split_line⟩)
    (c_split_line : PySem.W.codeIn K cd_split_line "split_line" = true)
    (k_split_line : PySem.W.keepIn K (.ref f_split_line) = true)
    (a_check_name : PySem.W.nsIn K mainGlobals "check_name" = some (some (.ref f_check_name)))
    (l_check_name : K.lookup f_check_name = some ⟨oc_check_name, od_check_name, .func (PySem.W.fnOf "check_name" "check_name" (defArgs s_check_name) (defBody s_check_name) (defScope s_check_name) .none kV_check_name dc_check_name pm_check_name an_check_name cd_check_name ct_check_name), sl_check_name⟩)
    (c_check_name : PySem.W.codeIn K cd_check_name "check_name" = true)
    (k_check_name : PySem.W.keepIn K (.ref f_check_name) = true)
    (a_looked_at : PySem.W.nsIn K mainGlobals "looked_at" = some (some (.ref f_looked_at)))
    (l_looked_at : K.lookup f_looked_at = some ⟨oc_looked_at, od_looked_at, .func (PySem.W.fnOf "looked_at" "looked_at" (defArgs s_looked_at) (defBody s_looked_at) (defScope s_looked_at) .none kV_looked_at dc_looked_at pm_looked_at an_looked_at cd_looked_at ct_looked_at), sl_looked_at⟩)
    (c_looked_at : PySem.W.codeIn K cd_looked_at "looked_at" = true)
    (k_looked_at : PySem.W.keepIn K (.ref f_looked_at) = true)
    (a_step_fits : PySem.W.nsIn K mainGlobals "step_fits" = some (some (.ref f_step_fits)))
    (l_step_fits : K.lookup f_step_fits = some ⟨oc_step_fits, od_step_fits, .func (PySem.W.fnOf "step_fits" "step_fits" (defArgs s_step_fits) (defBody s_step_fits) (defScope s_step_fits) .none kV_step_fits dc_step_fits pm_step_fits an_step_fits cd_step_fits ct_step_fits), sl_step_fits⟩)
    (c_step_fits : PySem.W.codeIn K cd_step_fits "step_fits" = true)
    (k_step_fits : PySem.W.keepIn K (.ref f_step_fits) = true)
    (a_steps_fit : PySem.W.nsIn K mainGlobals "steps_fit" = some (some (.ref f_steps_fit)))
    (l_steps_fit : K.lookup f_steps_fit = some ⟨oc_steps_fit, od_steps_fit, .func (PySem.W.fnOf "steps_fit" "steps_fit" (defArgs s_steps_fit) (defBody s_steps_fit) (defScope s_steps_fit) .none kV_steps_fit dc_steps_fit pm_steps_fit an_steps_fit cd_steps_fit ct_steps_fit), sl_steps_fit⟩)
    (c_steps_fit : PySem.W.codeIn K cd_steps_fit "steps_fit" = true)
    (k_steps_fit : PySem.W.keepIn K (.ref f_steps_fit) = true)
    (a_keys_fit : PySem.W.nsIn K mainGlobals "keys_fit" = some (some (.ref f_keys_fit)))
    (l_keys_fit : K.lookup f_keys_fit = some ⟨oc_keys_fit, od_keys_fit, .func (PySem.W.fnOf "keys_fit" "keys_fit" (defArgs s_keys_fit) (defBody s_keys_fit) (defScope s_keys_fit) .none kV_keys_fit dc_keys_fit pm_keys_fit an_keys_fit cd_keys_fit ct_keys_fit), sl_keys_fit⟩)
    (c_keys_fit : PySem.W.codeIn K cd_keys_fit "keys_fit" = true)
    (k_keys_fit : PySem.W.keepIn K (.ref f_keys_fit) = true)
    (fa_Reader_at_end : PySem.W.findIn K (.ref a_Reader) "at_end" = some (some (.ref f_Reader_at_end)))
    (fn_Reader_at_end : PySem.W.isFn K (.ref f_Reader_at_end) = true)
    (l_Reader_at_end : K.lookup f_Reader_at_end = some ⟨oc_Reader_at_end, od_Reader_at_end, .func (PySem.W.fnOf "at_end" "Reader.at_end" (defArgs s_Reader_at_end) (defBody s_Reader_at_end) (defScope s_Reader_at_end) .none kV_Reader_at_end dc_Reader_at_end pm_Reader_at_end an_Reader_at_end cd_Reader_at_end ct_Reader_at_end), sl_Reader_at_end⟩)
    (c_Reader_at_end : PySem.W.codeIn K cd_Reader_at_end "Reader.at_end" = true)
    (k_Reader_at_end : PySem.W.keepIn K (.ref f_Reader_at_end) = true)
    (fa_Reader_ahead : PySem.W.findIn K (.ref a_Reader) "ahead" = some (some (.ref f_Reader_ahead)))
    (fn_Reader_ahead : PySem.W.isFn K (.ref f_Reader_ahead) = true)
    (l_Reader_ahead : K.lookup f_Reader_ahead = some ⟨oc_Reader_ahead, od_Reader_ahead, .func (PySem.W.fnOf "ahead" "Reader.ahead" (defArgs s_Reader_ahead) (defBody s_Reader_ahead) (defScope s_Reader_ahead) .none kV_Reader_ahead dc_Reader_ahead pm_Reader_ahead an_Reader_ahead cd_Reader_ahead ct_Reader_ahead), sl_Reader_ahead⟩)
    (c_Reader_ahead : PySem.W.codeIn K cd_Reader_ahead "Reader.ahead" = true)
    (k_Reader_ahead : PySem.W.keepIn K (.ref f_Reader_ahead) = true)
    (fa_Reader__refuse : PySem.W.findIn K (.ref a_Reader) "_refuse" = some (some (.ref f_Reader__refuse)))
    (fn_Reader__refuse : PySem.W.isFn K (.ref f_Reader__refuse) = true)
    (l_Reader__refuse : K.lookup f_Reader__refuse = some ⟨oc_Reader__refuse, od_Reader__refuse, .func (PySem.W.fnOf "_refuse" "Reader._refuse" (defArgs s_Reader__refuse) (defBody s_Reader__refuse) (defScope s_Reader__refuse) .none kV_Reader__refuse dc_Reader__refuse pm_Reader__refuse an_Reader__refuse cd_Reader__refuse ct_Reader__refuse), sl_Reader__refuse⟩)
    (c_Reader__refuse : PySem.W.codeIn K cd_Reader__refuse "Reader._refuse" = true)
    (k_Reader__refuse : PySem.W.keepIn K (.ref f_Reader__refuse) = true)
    (fa_Reader__take_if : PySem.W.findIn K (.ref a_Reader) "_take_if" = some (some (.ref f_Reader__take_if)))
    (fn_Reader__take_if : PySem.W.isFn K (.ref f_Reader__take_if) = true)
    (l_Reader__take_if : K.lookup f_Reader__take_if = some ⟨oc_Reader__take_if, od_Reader__take_if, .func (PySem.W.fnOf "_take_if" "Reader._take_if" (defArgs s_Reader__take_if) (defBody s_Reader__take_if) (defScope s_Reader__take_if) .none kV_Reader__take_if dc_Reader__take_if pm_Reader__take_if an_Reader__take_if cd_Reader__take_if ct_Reader__take_if), sl_Reader__take_if⟩)
    (c_Reader__take_if : PySem.W.codeIn K cd_Reader__take_if "Reader._take_if" = true)
    (k_Reader__take_if : PySem.W.keepIn K (.ref f_Reader__take_if) = true)
    (fa_Reader_take_one : PySem.W.findIn K (.ref a_Reader) "take_one" = some (some (.ref f_Reader_take_one)))
    (fn_Reader_take_one : PySem.W.isFn K (.ref f_Reader_take_one) = true)
    (l_Reader_take_one : K.lookup f_Reader_take_one = some ⟨oc_Reader_take_one, od_Reader_take_one, .func (PySem.W.fnOf "take_one" "Reader.take_one" (defArgs s_Reader_take_one) (defBody s_Reader_take_one) (defScope s_Reader_take_one) .none kV_Reader_take_one dc_Reader_take_one pm_Reader_take_one an_Reader_take_one cd_Reader_take_one ct_Reader_take_one), sl_Reader_take_one⟩)
    (c_Reader_take_one : PySem.W.codeIn K cd_Reader_take_one "Reader.take_one" = true)
    (k_Reader_take_one : PySem.W.keepIn K (.ref f_Reader_take_one) = true)
    (fa_Reader_take_name : PySem.W.findIn K (.ref a_Reader) "take_name" = some (some (.ref f_Reader_take_name)))
    (fn_Reader_take_name : PySem.W.isFn K (.ref f_Reader_take_name) = true)
    (l_Reader_take_name : K.lookup f_Reader_take_name = some ⟨oc_Reader_take_name, od_Reader_take_name, .func (PySem.W.fnOf "take_name" "Reader.take_name" (defArgs s_Reader_take_name) (defBody s_Reader_take_name) (defScope s_Reader_take_name) .none kV_Reader_take_name dc_Reader_take_name pm_Reader_take_name an_Reader_take_name cd_Reader_take_name ct_Reader_take_name), sl_Reader_take_name⟩)
    (c_Reader_take_name : PySem.W.codeIn K cd_Reader_take_name "Reader.take_name" = true)
    (k_Reader_take_name : PySem.W.keepIn K (.ref f_Reader_take_name) = true)
    (a_parse_step : PySem.W.nsIn K mainGlobals "parse_step" = some (some (.ref f_parse_step)))
    (l_parse_step : K.lookup f_parse_step = some ⟨oc_parse_step, od_parse_step, .func (PySem.W.fnOf "parse_step" "parse_step" (defArgs s_parse_step) (defBody s_parse_step) (defScope s_parse_step) .none kV_parse_step dc_parse_step pm_parse_step an_parse_step cd_parse_step ct_parse_step), sl_parse_step⟩)
    (c_parse_step : PySem.W.codeIn K cd_parse_step "parse_step" = true)
    (k_parse_step : PySem.W.keepIn K (.ref f_parse_step) = true)
    (a_parse_keys : PySem.W.nsIn K mainGlobals "parse_keys" = some (some (.ref f_parse_keys)))
    (l_parse_keys : K.lookup f_parse_keys = some ⟨oc_parse_keys, od_parse_keys, .func (PySem.W.fnOf "parse_keys" "parse_keys" (defArgs s_parse_keys) (defBody s_parse_keys) (defScope s_parse_keys) .none kV_parse_keys dc_parse_keys pm_parse_keys an_parse_keys cd_parse_keys ct_parse_keys), sl_parse_keys⟩)
    (c_parse_keys : PySem.W.codeIn K cd_parse_keys "parse_keys" = true)
    (k_parse_keys : PySem.W.keepIn K (.ref f_parse_keys) = true)
    (fa_Reader_skip : PySem.W.findIn K (.ref a_Reader) "skip" = some (some (.ref f_Reader_skip)))
    (fn_Reader_skip : PySem.W.isFn K (.ref f_Reader_skip) = true)
    (l_Reader_skip : K.lookup f_Reader_skip = some ⟨oc_Reader_skip, od_Reader_skip, .func (PySem.W.fnOf "skip" "Reader.skip" (defArgs s_Reader_skip) (defBody s_Reader_skip) (defScope s_Reader_skip) .none kV_Reader_skip dc_Reader_skip pm_Reader_skip an_Reader_skip cd_Reader_skip ct_Reader_skip), sl_Reader_skip⟩)
    (c_Reader_skip : PySem.W.codeIn K cd_Reader_skip "Reader.skip" = true)
    (k_Reader_skip : PySem.W.keepIn K (.ref f_Reader_skip) = true)
    (fa_Reader_take_end : PySem.W.findIn K (.ref a_Reader) "take_end" = some (some (.ref f_Reader_take_end)))
    (fn_Reader_take_end : PySem.W.isFn K (.ref f_Reader_take_end) = true)
    (l_Reader_take_end : K.lookup f_Reader_take_end = some ⟨oc_Reader_take_end, od_Reader_take_end, .func (PySem.W.fnOf "take_end" "Reader.take_end" (defArgs s_Reader_take_end) (defBody s_Reader_take_end) (defScope s_Reader_take_end) .none kV_Reader_take_end dc_Reader_take_end pm_Reader_take_end an_Reader_take_end cd_Reader_take_end ct_Reader_take_end), sl_Reader_take_end⟩)
    (c_Reader_take_end : PySem.W.codeIn K cd_Reader_take_end "Reader.take_end" = true)
    (k_Reader_take_end : PySem.W.keepIn K (.ref f_Reader_take_end) = true)
    (a_parse_plan : PySem.W.nsIn K mainGlobals "parse_plan" = some (some (.ref f_parse_plan)))
    (l_parse_plan : K.lookup f_parse_plan = some ⟨oc_parse_plan, od_parse_plan, .func (PySem.W.fnOf "parse_plan" "parse_plan" (defArgs s_parse_plan) (defBody s_parse_plan) (defScope s_parse_plan) .none kV_parse_plan dc_parse_plan pm_parse_plan an_parse_plan cd_parse_plan ct_parse_plan), sl_parse_plan⟩)
    (c_parse_plan : PySem.W.codeIn K cd_parse_plan "parse_plan" = true)
    (k_parse_plan : PySem.W.keepIn K (.ref f_parse_plan) = true)
    (a__law_state : PySem.W.nsIn K mainGlobals "_law_state" = some (some (.ref f__law_state)))
    (l__law_state : K.lookup f__law_state = some ⟨oc__law_state, od__law_state, .func (PySem.W.fnOf "_law_state" "_law_state" (defArgs s__law_state) (defBody s__law_state) (defScope s__law_state) .none kV__law_state dc__law_state pm__law_state an__law_state cd__law_state ct__law_state), sl__law_state⟩)
    (c__law_state : PySem.W.codeIn K cd__law_state "_law_state" = true)
    (k__law_state : PySem.W.keepIn K (.ref f__law_state) = true)
    (a__law_draw : PySem.W.nsIn K mainGlobals "_law_draw" = some (some (.ref f__law_draw)))
    (l__law_draw : K.lookup f__law_draw = some ⟨oc__law_draw, od__law_draw, .func (PySem.W.fnOf "_law_draw" "_law_draw" (defArgs s__law_draw) (defBody s__law_draw) (defScope s__law_draw) .none kV__law_draw dc__law_draw pm__law_draw an__law_draw cd__law_draw ct__law_draw), sl__law_draw⟩)
    (c__law_draw : PySem.W.codeIn K cd__law_draw "_law_draw" = true)
    (k__law_draw : PySem.W.keepIn K (.ref f__law_draw) = true)
    (a__law_pick : PySem.W.nsIn K mainGlobals "_law_pick" = some (some (.ref f__law_pick)))
    (l__law_pick : K.lookup f__law_pick = some ⟨oc__law_pick, od__law_pick, .func (PySem.W.fnOf "_law_pick" "_law_pick" (defArgs s__law_pick) (defBody s__law_pick) (defScope s__law_pick) .none kV__law_pick dc__law_pick pm__law_pick an__law_pick cd__law_pick ct__law_pick), sl__law_pick⟩)
    (c__law_pick : PySem.W.codeIn K cd__law_pick "_law_pick" = true)
    (k__law_pick : PySem.W.keepIn K (.ref f__law_pick) = true)
    (a__law_mixed : PySem.W.nsIn K mainGlobals "_law_mixed" = some (some (.ref f__law_mixed)))
    (l__law_mixed : K.lookup f__law_mixed = some ⟨oc__law_mixed, od__law_mixed, .func (PySem.W.fnOf "_law_mixed" "_law_mixed" (defArgs s__law_mixed) (defBody s__law_mixed) (defScope s__law_mixed) .none kV__law_mixed dc__law_mixed pm__law_mixed an__law_mixed cd__law_mixed ct__law_mixed), sl__law_mixed⟩)
    (c__law_mixed : PySem.W.codeIn K cd__law_mixed "_law_mixed" = true)
    (k__law_mixed : PySem.W.keepIn K (.ref f__law_mixed) = true)
    (a__law_names : PySem.W.nsIn K mainGlobals "_law_names" = some (some (.ref f__law_names)))
    (l__law_names : K.lookup f__law_names = some ⟨oc__law_names, od__law_names, .func (PySem.W.fnOf "_law_names" "_law_names" (defArgs s__law_names) (defBody s__law_names) (defScope s__law_names) .none kV__law_names dc__law_names pm__law_names an__law_names cd__law_names ct__law_names), sl__law_names⟩)
    (c__law_names : PySem.W.codeIn K cd__law_names "_law_names" = true)
    (k__law_names : PySem.W.keepIn K (.ref f__law_names) = true)
    (a__law_is_int : PySem.W.nsIn K mainGlobals "_law_is_int" = some (some (.ref f__law_is_int)))
    (l__law_is_int : K.lookup f__law_is_int = some ⟨oc__law_is_int, od__law_is_int, .func (PySem.W.fnOf "_law_is_int" "_law_is_int" (defArgs s__law_is_int) (defBody s__law_is_int) (defScope s__law_is_int) .none kV__law_is_int dc__law_is_int pm__law_is_int an__law_is_int cd__law_is_int ct__law_is_int), sl__law_is_int⟩)
    (c__law_is_int : PySem.W.codeIn K cd__law_is_int "_law_is_int" = true)
    (k__law_is_int : PySem.W.keepIn K (.ref f__law_is_int) = true)
    (a__law_same : PySem.W.nsIn K mainGlobals "_law_same" = some (some (.ref f__law_same)))
    (l__law_same : K.lookup f__law_same = some ⟨oc__law_same, od__law_same, .func (PySem.W.fnOf "_law_same" "_law_same" (defArgs s__law_same) (defBody s__law_same) (defScope s__law_same) .none kV__law_same dc__law_same pm__law_same an__law_same cd__law_same ct__law_same), sl__law_same⟩)
    (c__law_same : PySem.W.codeIn K cd__law_same "_law_same" = true)
    (k__law_same : PySem.W.keepIn K (.ref f__law_same) = true)
    (a__law_wild_steps : PySem.W.nsIn K mainGlobals "_law_wild_steps" = some (some (.ref f__law_wild_steps)))
    (l__law_wild_steps : K.lookup f__law_wild_steps = some ⟨oc__law_wild_steps, od__law_wild_steps, .func (PySem.W.fnOf "_law_wild_steps" "_law_wild_steps" (defArgs s__law_wild_steps) (defBody s__law_wild_steps) (defScope s__law_wild_steps) .none kV__law_wild_steps dc__law_wild_steps pm__law_wild_steps an__law_wild_steps cd__law_wild_steps ct__law_wild_steps), sl__law_wild_steps⟩)
    (c__law_wild_steps : PySem.W.codeIn K cd__law_wild_steps "_law_wild_steps" = true)
    (k__law_wild_steps : PySem.W.keepIn K (.ref f__law_wild_steps) = true)
    (a__law_some : PySem.W.nsIn K mainGlobals "_law_some" = some (some (.ref f__law_some)))
    (l__law_some : K.lookup f__law_some = some ⟨oc__law_some, od__law_some, .func (PySem.W.fnOf "_law_some" "_law_some" (defArgs s__law_some) (defBody s__law_some) (defScope s__law_some) .none kV__law_some dc__law_some pm__law_some an__law_some cd__law_some ct__law_some), sl__law_some⟩)
    (c__law_some : PySem.W.codeIn K cd__law_some "_law_some" = true)
    (k__law_some : PySem.W.keepIn K (.ref f__law_some) = true)
    (a__law_text : PySem.W.nsIn K mainGlobals "_law_text" = some (some (.ref f__law_text)))
    (l__law_text : K.lookup f__law_text = some ⟨oc__law_text, od__law_text, .func (PySem.W.fnOf "_law_text" "_law_text" (defArgs s__law_text) (defBody s__law_text) (defScope s__law_text) .none kV__law_text dc__law_text pm__law_text an__law_text cd__law_text ct__law_text), sl__law_text⟩)
    (c__law_text : PySem.W.codeIn K cd__law_text "_law_text" = true)
    (k__law_text : PySem.W.keepIn K (.ref f__law_text) = true)
    (a__law_parts : PySem.W.nsIn K mainGlobals "_law_parts" = some (some (.ref f__law_parts)))
    (l__law_parts : K.lookup f__law_parts = some ⟨oc__law_parts, od__law_parts, .func (PySem.W.fnOf "_law_parts" "_law_parts" (defArgs s__law_parts) (defBody s__law_parts) (defScope s__law_parts) .none kV__law_parts dc__law_parts pm__law_parts an__law_parts cd__law_parts ct__law_parts), sl__law_parts⟩)
    (c__law_parts : PySem.W.codeIn K cd__law_parts "_law_parts" = true)
    (k__law_parts : PySem.W.keepIn K (.ref f__law_parts) = true)
    (a__law_line : PySem.W.nsIn K mainGlobals "_law_line" = some (some (.ref f__law_line)))
    (l__law_line : K.lookup f__law_line = some ⟨oc__law_line, od__law_line, .func (PySem.W.fnOf "_law_line" "_law_line" (defArgs s__law_line) (defBody s__law_line) (defScope s__law_line) .none kV__law_line dc__law_line pm__law_line an__law_line cd__law_line ct__law_line), sl__law_line⟩)
    (c__law_line : PySem.W.codeIn K cd__law_line "_law_line" = true)
    (k__law_line : PySem.W.keepIn K (.ref f__law_line) = true)
    (a__law_strange : PySem.W.nsIn K mainGlobals "_law_strange" = some (some (.ref f__law_strange)))
    (l__law_strange : K.lookup f__law_strange = some ⟨oc__law_strange, od__law_strange, .func (PySem.W.fnOf "_law_strange" "_law_strange" (defArgs s__law_strange) (defBody s__law_strange) (defScope s__law_strange) .none kV__law_strange dc__law_strange pm__law_strange an__law_strange cd__law_strange ct__law_strange), sl__law_strange⟩)
    (c__law_strange : PySem.W.codeIn K cd__law_strange "_law_strange" = true)
    (k__law_strange : PySem.W.keepIn K (.ref f__law_strange) = true)
    (a__law_misfit : PySem.W.nsIn K mainGlobals "_law_misfit" = some (some (.ref f__law_misfit)))
    (l__law_misfit : K.lookup f__law_misfit = some ⟨oc__law_misfit, od__law_misfit, .func (PySem.W.fnOf "_law_misfit" "_law_misfit" (defArgs s__law_misfit) (defBody s__law_misfit) (defScope s__law_misfit) .none kV__law_misfit dc__law_misfit pm__law_misfit an__law_misfit cd__law_misfit ct__law_misfit), sl__law_misfit⟩)
    (c__law_misfit : PySem.W.codeIn K cd__law_misfit "_law_misfit" = true)
    (k__law_misfit : PySem.W.keepIn K (.ref f__law_misfit) = true)
    (a__law_plan_of : PySem.W.nsIn K mainGlobals "_law_plan_of" = some (some (.ref f__law_plan_of)))
    (l__law_plan_of : K.lookup f__law_plan_of = some ⟨oc__law_plan_of, od__law_plan_of, .func (PySem.W.fnOf "_law_plan_of" "_law_plan_of" (defArgs s__law_plan_of) (defBody s__law_plan_of) (defScope s__law_plan_of) .none kV__law_plan_of dc__law_plan_of pm__law_plan_of an__law_plan_of cd__law_plan_of ct__law_plan_of), sl__law_plan_of⟩)
    (c__law_plan_of : PySem.W.codeIn K cd__law_plan_of "_law_plan_of" = true)
    (k__law_plan_of : PySem.W.keepIn K (.ref f__law_plan_of) = true)
    (a__law_is_plan : PySem.W.nsIn K mainGlobals "_law_is_plan" = some (some (.ref f__law_is_plan)))
    (l__law_is_plan : K.lookup f__law_is_plan = some ⟨oc__law_is_plan, od__law_is_plan, .func (PySem.W.fnOf "_law_is_plan" "_law_is_plan" (defArgs s__law_is_plan) (defBody s__law_is_plan) (defScope s__law_is_plan) .none kV__law_is_plan dc__law_is_plan pm__law_is_plan an__law_is_plan cd__law_is_plan ct__law_is_plan), sl__law_is_plan⟩)
    (c__law_is_plan : PySem.W.codeIn K cd__law_is_plan "_law_is_plan" = true)
    (k__law_is_plan : PySem.W.keepIn K (.ref f__law_is_plan) = true)
    (a__law_due : PySem.W.nsIn K mainGlobals "_law_due" = some (some (.ref f__law_due)))
    (l__law_due : K.lookup f__law_due = some ⟨oc__law_due, od__law_due, .func (PySem.W.fnOf "_law_due" "_law_due" (defArgs s__law_due) (defBody s__law_due) (defScope s__law_due) .none kV__law_due dc__law_due pm__law_due an__law_due cd__law_due ct__law_due), sl__law_due⟩)
    (c__law_due : PySem.W.codeIn K cd__law_due "_law_due" = true)
    (k__law_due : PySem.W.keepIn K (.ref f__law_due) = true)
    (fa_Plan_text : PySem.W.findIn K (.ref a_Plan) "text" = some (some (.ref f_Plan_text)))
    (fn_Plan_text : PySem.W.isFn K (.ref f_Plan_text) = true)
    (l_Plan_text : K.lookup f_Plan_text = some ⟨oc_Plan_text, od_Plan_text, .func (PySem.W.fnOf "text" "Plan.text" (defArgs s_Plan_text) (defBody s_Plan_text) (defScope s_Plan_text) .none kV_Plan_text dc_Plan_text pm_Plan_text an_Plan_text cd_Plan_text ct_Plan_text), sl_Plan_text⟩)
    (c_Plan_text : PySem.W.codeIn K cd_Plan_text "Plan.text" = true)
    (k_Plan_text : PySem.W.keepIn K (.ref f_Plan_text) = true)
    (fa_Plan___init__ : PySem.W.findIn K (.ref a_Plan) "__init__" = some (some (.ref f_Plan___init__)))
    (fn_Plan___init__ : PySem.W.isFn K (.ref f_Plan___init__) = true)
    (l_Plan___init__ : K.lookup f_Plan___init__ = some ⟨oc_Plan___init__, od_Plan___init__, .func (PySem.W.fnOf "__init__" "Plan.__init__" (defArgs s_Plan___init__) (defBody s_Plan___init__) (defScope s_Plan___init__) .none (.ref kD_Plan___init__) dc_Plan___init__ pm_Plan___init__ an_Plan___init__ cd_Plan___init__ ct_Plan___init__), sl_Plan___init__⟩)
    (ek1_Plan___init__ : PySem.W.nsIn K kD_Plan___init__ "locked" = some (some (.ref e1_Plan___init__)))
    (el_1_Plan___init__ : K.lookup e1_Plan___init__ = some ⟨.type "tuple", eo1_Plan___init__, .seq ei1_Plan___init__ en1_Plan___init__, el1_Plan___init__⟩)
    (v_e1_Plan___init__ : Vals [] ei1_Plan___init__.toList)
    (ek2_Plan___init__ : PySem.W.nsIn K kD_Plan___init__ "kept" = some (some (.ref e2_Plan___init__)))
    (el_2_Plan___init__ : K.lookup e2_Plan___init__ = some ⟨.type "tuple", eo2_Plan___init__, .seq ei2_Plan___init__ en2_Plan___init__, el2_Plan___init__⟩)
    (v_e2_Plan___init__ : Vals [] ei2_Plan___init__.toList)
    (c_Plan___init__ : PySem.W.codeIn K cd_Plan___init__ "Plan.__init__" = true)
    (k_Plan___init__ : PySem.W.keepIn K (.ref f_Plan___init__) = true)
    (fa_Reader___init__ : PySem.W.findIn K (.ref a_Reader) "__init__" = some (some (.ref f_Reader___init__)))
    (fn_Reader___init__ : PySem.W.isFn K (.ref f_Reader___init__) = true)
    (l_Reader___init__ : K.lookup f_Reader___init__ = some ⟨oc_Reader___init__, od_Reader___init__, .func (PySem.W.fnOf "__init__" "Reader.__init__" (defArgs s_Reader___init__) (defBody s_Reader___init__) (defScope s_Reader___init__) (.ref dT_Reader___init__) kV_Reader___init__ dc_Reader___init__ pm_Reader___init__ an_Reader___init__ cd_Reader___init__ ct_Reader___init__), sl_Reader___init__⟩)
    (ld_Reader___init__ : K.lookup dT_Reader___init__ = some ⟨.type "tuple", dd_Reader___init__, .seq ds_Reader___init__ dn_Reader___init__, dl_Reader___init__⟩)
    (v_d_Reader___init__ : Vals [(.int 1)] ds_Reader___init__.toList)
    (c_Reader___init__ : PySem.W.codeIn K cd_Reader___init__ "Reader.__init__" = true)
    (k_Reader___init__ : PySem.W.keepIn K (.ref f_Reader___init__) = true)
    (sg_Plan_read : PySem.W.findCls K (.ref a_Plan) (.type "type") "read" = some (.get (.builtin "staticmethod.__get__") (.ref p_Plan_read) .none (.ref a_Plan)))
    (sr_Plan_read : PySem.W.recIn K p_Plan_read "staticmethod" = some (.ref f_Plan_read :: r_Plan_read))
    (l_Plan_read : K.lookup f_Plan_read = some ⟨oc_Plan_read, od_Plan_read, .func (PySem.W.fnOf "read" "Plan.read" (defArgs s_Plan_read) (defBody s_Plan_read) (defScope s_Plan_read) .none kV_Plan_read dc_Plan_read pm_Plan_read an_Plan_read cd_Plan_read ct_Plan_read), sl_Plan_read⟩)
    (c_Plan_read : PySem.W.codeIn K cd_Plan_read "Plan.read" = true)
    (k_Plan_read : PySem.W.keepIn K (.ref f_Plan_read) = true)
    (a__law_read : PySem.W.nsIn K mainGlobals "_law_read" = some (some (.ref f__law_read)))
    (l__law_read : K.lookup f__law_read = some ⟨oc__law_read, od__law_read, .func (PySem.W.fnOf "_law_read" "_law_read" (defArgs s__law_read) (defBody s__law_read) (defScope s__law_read) .none kV__law_read dc__law_read pm__law_read an__law_read cd__law_read ct__law_read), sl__law_read⟩)
    (c__law_read : PySem.W.codeIn K cd__law_read "_law_read" = true)
    (k__law_read : PySem.W.keepIn K (.ref f__law_read) = true)
    (a__law_bent_rows : PySem.W.nsIn K mainGlobals "_law_bent_rows" = some (some (.ref f__law_bent_rows)))
    (l__law_bent_rows : K.lookup f__law_bent_rows = some ⟨oc__law_bent_rows, od__law_bent_rows, .func (PySem.W.fnOf "_law_bent_rows" "_law_bent_rows" (defArgs s__law_bent_rows) (defBody s__law_bent_rows) (defScope s__law_bent_rows) .none kV__law_bent_rows dc__law_bent_rows pm__law_bent_rows an__law_bent_rows cd__law_bent_rows ct__law_bent_rows), sl__law_bent_rows⟩)
    (c__law_bent_rows : PySem.W.codeIn K cd__law_bent_rows "_law_bent_rows" = true)
    (k__law_bent_rows : PySem.W.keepIn K (.ref f__law_bent_rows) = true)
    (a__law_bent : PySem.W.nsIn K mainGlobals "_law_bent" = some (some (.ref f__law_bent)))
    (l__law_bent : K.lookup f__law_bent = some ⟨oc__law_bent, od__law_bent, .func (PySem.W.fnOf "_law_bent" "_law_bent" (defArgs s__law_bent) (defBody s__law_bent) (defScope s__law_bent) .none kV__law_bent dc__law_bent pm__law_bent an__law_bent cd__law_bent ct__law_bent), sl__law_bent⟩)
    (c__law_bent : PySem.W.codeIn K cd__law_bent "_law_bent" = true)
    (k__law_bent : PySem.W.keepIn K (.ref f__law_bent) = true)
    (a_law : PySem.W.nsIn K mainGlobals "law" = some (some (.ref f_law)))
    (l_law : K.lookup f_law = some ⟨oc_law, od_law, .func (PySem.W.fnOf "law" "law" (defArgs s_law) (defBody s_law) (defScope s_law) .none kV_law dc_law pm_law an_law cd_law ct_law), sl_law⟩)
    (c_law : PySem.W.codeIn K cd_law "law" = true)
    (k_law : PySem.W.keepIn K (.ref f_law) = true)
    (z_ValueError : PySem.W.nsIn K mainGlobals "ValueError" = some none)
    (z_all : PySem.W.nsIn K mainGlobals "all" = some none)
    (z_bool : PySem.W.nsIn K mainGlobals "bool" = some none)
    (z_dict : PySem.W.nsIn K mainGlobals "dict" = some none)
    (z_int : PySem.W.nsIn K mainGlobals "int" = some none)
    (z_isinstance : PySem.W.nsIn K mainGlobals "isinstance" = some none)
    (z_len : PySem.W.nsIn K mainGlobals "len" = some none)
    (z_list : PySem.W.nsIn K mainGlobals "list" = some none)
    (z_range : PySem.W.nsIn K mainGlobals "range" = some none)
    (z_set : PySem.W.nsIn K mainGlobals "set" = some none)
    (z_staticmethod : PySem.W.nsIn K mainGlobals "staticmethod" = some none)
    (z_str : PySem.W.nsIn K mainGlobals "str" = some none)
    (z_super : PySem.W.nsIn K mainGlobals "super" = some none)
    (z_tuple : PySem.W.nsIn K mainGlobals "tuple" = some none)
    (g_DIGITS : PySem.W.nsIn K mainGlobals "DIGITS" = some (some (.str "0123456789" t_DIGITS)))
    (g_LETTERS : PySem.W.nsIn K mainGlobals "LETTERS" = some (some (.str "abcdefghijklmnopqrstuvwxyz" t_LETTERS)))
    (g_LONGEST_NAME : PySem.W.nsIn K mainGlobals "LONGEST_NAME" = some (some (.int 12 t_LONGEST_NAME)))
    (g_DEEDS : PySem.W.nsIn K mainGlobals "DEEDS" = some (some (.ref a_DEEDS)))
    (l_DEEDS : K.lookup a_DEEDS = some ⟨.type "tuple", od_DEEDS, .seq its_DEEDS n_DEEDS, sl_DEEDS⟩)
    (v_DEEDS : Vals [(.str "take"), (.str "look"), (.str "free")] its_DEEDS.toList)
    (g_MARKS : PySem.W.nsIn K mainGlobals "MARKS" = some (some (.ref a_MARKS)))
    (l_MARKS : K.lookup a_MARKS = some ⟨.type "tuple", od_MARKS, .seq its_MARKS n_MARKS, sl_MARKS⟩)
    (v_MARKS : Vals [(.str "("), (.str ")"), (.str ","), (.str ";"), (.str ":")] its_MARKS.toList)
    (g_RESERVED : PySem.W.nsIn K mainGlobals "RESERVED" = some (some (.ref a_RESERVED)))
    (l_RESERVED : K.lookup a_RESERVED = some ⟨.type "tuple", od_RESERVED, .seq its_RESERVED n_RESERVED, sl_RESERVED⟩)
    (v_RESERVED : Vals [(.str "always"), (.str "never"), (.str "and"), (.str "or"), (.str "not"), (.str "when"), (.str "add"), (.str "set"), (.str "change"), (.str "tell"), (.str "refuse"), (.str "take"), (.str "look"), (.str "free"), (.str "lock"), (.str "keep"), (.str "keys"), (.str "fields")] its_RESERVED.toList)
    (g_SIGNS : PySem.W.nsIn K mainGlobals "SIGNS" = some (some (.ref a_SIGNS)))
    (l_SIGNS : K.lookup a_SIGNS = some ⟨.type "tuple", od_SIGNS, .seq its_SIGNS n_SIGNS, sl_SIGNS⟩)
    (v_SIGNS : Vals [(.str "<"), (.str "<="), (.str "=="), (.str "!="), (.str ">="), (.str ">")] its_SIGNS.toList)
    (g_BadName : PySem.W.nsIn K mainGlobals "BadName" = some (some (.ref a_BadName)))
    (g_BadPlan : PySem.W.nsIn K mainGlobals "BadPlan" = some (some (.ref a_BadPlan)))
    (g_BadText : PySem.W.nsIn K mainGlobals "BadText" = some (some (.ref a_BadText)))
    (g_ElseputError : PySem.W.nsIn K mainGlobals "ElseputError" = some (some (.ref a_ElseputError)))
    (st_any : PySem.W.nsIn K PySem.cStatics "thirdparty.any" = some none)
    (htop : (l.prog.main.scope.names.lookup ("super" : Str)).isSome = false)
    (xc_BadName : K.lookup a_BadName = some (excClassObj nm_BadName q_BadName a_BadName N_BadName bs_BadName bm_BadName true sn_BadName sub_BadName ab_BadName col_BadName dd_BadName e0_BadName e1_BadName e2_BadName e3_BadName e5_BadName "ValueError.__new__"))
    (ref_BadName : PySem.HandSPX.refsVE bm_BadName = true)
    (sa_BadName : PySem.W.findIn K (.ref a_BadName) "__setattr__" = some (some (.builtin "object.__setattr__")))
    (eb_BadName : PySem.W.subIn K (.ref a_BadName) (.type "BaseException") = some true)
    (ty_BadName : PySem.W.typeIn K (.ref a_BadName) = some (.type "type"))
    (kC_BadName : PySem.W.keepIn K (.ref a_BadName) = true)
    (iC_BadName : PySem.W.findIn K (.ref a_BadName) "__init__" = some (some (.ref f_BadName)))
    (tI_BadName : PySem.W.typeIn K (.ref f_BadName) = some (.type "function"))
    (sup_BadName : PySem.W.ks_superIn K a_BadName a_BadName "__init__" = some (some (.builtin "ValueError.__init__")))
    (sv_BadName : PySem.W.subIn K (.ref a_BadName) (.type "ValueError") = some true)
    (mro_BadName : PySem.W.mroIn K a_BadName (.ref a_BadName) = some true)
    (no0_BadName : PySem.W.findIn K (.ref a_BadName) "name" = some none)
    (ga_BadName : PySem.W.findIn K (.ref a_BadName) "__getattribute__" = some (some (.builtin "BaseException.__getattribute__")))
    (gg_BadName : PySem.W.findIn K (.ref a_BadName) "__getattr__" = some none)
    (hd_BadName : PySem.W.hasDictIn K a_BadName = true)
    (hcl_BadName : PySem.W.findIn K (.ref a_BadName) "__class__" = some (some (.builtin "object.__class__")))
    (hn_BadName : PySem.W.specialIn K (.builtin "object.__class__") "__get__" = some (some (.builtin "getset_descriptor.__get__")))
    (ht_BadName : PySem.W.takesIn K (.builtin "object.__class__") = some true)
    (hm_BadName : PySem.W.mroIn K a_BadName (.type "object") = some true)
    (lf_BadName : K.lookup f_BadName = some ⟨oc_BadName, od_BadName, .func (PySem.W.fnX "__init__" "BadName.__init__" (defArgs s_BadName) (defBody s_BadName) (defScope s_BadName) [("__class__", cc_BadName)] .none .none doc_BadName pm_BadName none (.ref cda_BadName) ct_BadName), osl_BadName⟩)
    (cd_BadName : PySem.W.codeIn K (.ref cda_BadName) "BadName.__init__" = true)
    (lc_BadName : K.lookup cda_BadName = some ⟨ccl_BadName, cdd_BadName, .fields vs_BadName, ccs_BadName⟩)
    (v2_BadName : vs_BadName[2]? = some (.str file_BadName tf_BadName))
    (fe_BadName : ((l.prog.main.file : Str) == file_BadName) = true)
    (lcc_BadName : K.lookup cc_BadName = some ⟨cl_BadName, cld_BadName, .cell (some (.ref a_BadName)), csl_BadName⟩)
    (hD_BadName : PySem.W.clsIn K a_BadName = some cdD_BadName)
    (xc_BadText : K.lookup a_BadText = some (excClassObj nm_BadText q_BadText a_BadText N_BadText bs_BadText bm_BadText true sn_BadText sub_BadText ab_BadText col_BadText dd_BadText e0_BadText e1_BadText e2_BadText e3_BadText e5_BadText "ValueError.__new__"))
    (ref_BadText : PySem.HandSPX.refsVE bm_BadText = true)
    (sa_BadText : PySem.W.findIn K (.ref a_BadText) "__setattr__" = some (some (.builtin "object.__setattr__")))
    (eb_BadText : PySem.W.subIn K (.ref a_BadText) (.type "BaseException") = some true)
    (ty_BadText : PySem.W.typeIn K (.ref a_BadText) = some (.type "type"))
    (kC_BadText : PySem.W.keepIn K (.ref a_BadText) = true)
    (iC_BadText : PySem.W.findIn K (.ref a_BadText) "__init__" = some (some (.ref f_BadText)))
    (tI_BadText : PySem.W.typeIn K (.ref f_BadText) = some (.type "function"))
    (sup_BadText : PySem.W.ks_superIn K a_BadText a_BadText "__init__" = some (some (.builtin "ValueError.__init__")))
    (sv_BadText : PySem.W.subIn K (.ref a_BadText) (.type "ValueError") = some true)
    (mro_BadText : PySem.W.mroIn K a_BadText (.ref a_BadText) = some true)
    (no0_BadText : PySem.W.findIn K (.ref a_BadText) "line" = some none)
    (no1_BadText : PySem.W.findIn K (.ref a_BadText) "column" = some none)
    (ga_BadText : PySem.W.findIn K (.ref a_BadText) "__getattribute__" = some (some (.builtin "BaseException.__getattribute__")))
    (gg_BadText : PySem.W.findIn K (.ref a_BadText) "__getattr__" = some none)
    (hd_BadText : PySem.W.hasDictIn K a_BadText = true)
    (hcl_BadText : PySem.W.findIn K (.ref a_BadText) "__class__" = some (some (.builtin "object.__class__")))
    (hn_BadText : PySem.W.specialIn K (.builtin "object.__class__") "__get__" = some (some (.builtin "getset_descriptor.__get__")))
    (ht_BadText : PySem.W.takesIn K (.builtin "object.__class__") = some true)
    (hm_BadText : PySem.W.mroIn K a_BadText (.type "object") = some true)
    (lf_BadText : K.lookup f_BadText = some ⟨oc_BadText, od_BadText, .func (PySem.W.fnX "__init__" "BadText.__init__" (defArgs s_BadText) (defBody s_BadText) (defScope s_BadText) [("__class__", cc_BadText)] .none .none doc_BadText pm_BadText none (.ref cda_BadText) ct_BadText), osl_BadText⟩)
    (cd_BadText : PySem.W.codeIn K (.ref cda_BadText) "BadText.__init__" = true)
    (lc_BadText : K.lookup cda_BadText = some ⟨ccl_BadText, cdd_BadText, .fields vs_BadText, ccs_BadText⟩)
    (v2_BadText : vs_BadText[2]? = some (.str file_BadText tf_BadText))
    (fe_BadText : ((l.prog.main.file : Str) == file_BadText) = true)
    (lcc_BadText : K.lookup cc_BadText = some ⟨cl_BadText, cld_BadText, .cell (some (.ref a_BadText)), csl_BadText⟩)
    (hD_BadText : PySem.W.clsIn K a_BadText = some cdD_BadText)
    (xc_BadPlan : K.lookup a_BadPlan = some (excClassObj nm_BadPlan q_BadPlan a_BadPlan N_BadPlan bs_BadPlan bm_BadPlan true sn_BadPlan sub_BadPlan ab_BadPlan col_BadPlan dd_BadPlan e0_BadPlan e1_BadPlan e2_BadPlan e3_BadPlan e5_BadPlan "ValueError.__new__"))
    (ref_BadPlan : PySem.HandSPX.refsVE bm_BadPlan = true)
    (sa_BadPlan : PySem.W.findIn K (.ref a_BadPlan) "__setattr__" = some (some (.builtin "object.__setattr__")))
    (eb_BadPlan : PySem.W.subIn K (.ref a_BadPlan) (.type "BaseException") = some true)
    (ty_BadPlan : PySem.W.typeIn K (.ref a_BadPlan) = some (.type "type"))
    (kC_BadPlan : PySem.W.keepIn K (.ref a_BadPlan) = true)
    (iC_BadPlan : PySem.W.findIn K (.ref a_BadPlan) "__init__" = some (some (.ref f_BadPlan)))
    (tI_BadPlan : PySem.W.typeIn K (.ref f_BadPlan) = some (.type "function"))
    (sup_BadPlan : PySem.W.ks_superIn K a_BadPlan a_BadPlan "__init__" = some (some (.builtin "ValueError.__init__")))
    (sv_BadPlan : PySem.W.subIn K (.ref a_BadPlan) (.type "ValueError") = some true)
    (mro_BadPlan : PySem.W.mroIn K a_BadPlan (.ref a_BadPlan) = some true)
    (ga_BadPlan : PySem.W.findIn K (.ref a_BadPlan) "__getattribute__" = some (some (.builtin "BaseException.__getattribute__")))
    (gg_BadPlan : PySem.W.findIn K (.ref a_BadPlan) "__getattr__" = some none)
    (hd_BadPlan : PySem.W.hasDictIn K a_BadPlan = true)
    (hcl_BadPlan : PySem.W.findIn K (.ref a_BadPlan) "__class__" = some (some (.builtin "object.__class__")))
    (hn_BadPlan : PySem.W.specialIn K (.builtin "object.__class__") "__get__" = some (some (.builtin "getset_descriptor.__get__")))
    (ht_BadPlan : PySem.W.takesIn K (.builtin "object.__class__") = some true)
    (hm_BadPlan : PySem.W.mroIn K a_BadPlan (.type "object") = some true)
    (lf_BadPlan : K.lookup f_BadPlan = some ⟨oc_BadPlan, od_BadPlan, .func (PySem.W.fnX "__init__" "BadPlan.__init__" (defArgs s_BadPlan) (defBody s_BadPlan) (defScope s_BadPlan) [("__class__", cc_BadPlan)] .none .none doc_BadPlan pm_BadPlan none (.ref cda_BadPlan) ct_BadPlan), osl_BadPlan⟩)
    (cd_BadPlan : PySem.W.codeIn K (.ref cda_BadPlan) "BadPlan.__init__" = true)
    (lc_BadPlan : K.lookup cda_BadPlan = some ⟨ccl_BadPlan, cdd_BadPlan, .fields vs_BadPlan, ccs_BadPlan⟩)
    (v2_BadPlan : vs_BadPlan[2]? = some (.str file_BadPlan tf_BadPlan))
    (fe_BadPlan : ((l.prog.main.file : Str) == file_BadPlan) = true)
    (lcc_BadPlan : K.lookup cc_BadPlan = some ⟨cl_BadPlan, cld_BadPlan, .cell (some (.ref a_BadPlan)), csl_BadPlan⟩)
    (hD_BadPlan : PySem.W.clsIn K a_BadPlan = some cdD_BadPlan)
    (mb_ElseputError : PySem.W.subIn K (.ref a_ElseputError) (.type "BaseException") = some true)
    (md_ElseputError : PySem.W.hasDictIn K a_ElseputError = true)
    (mt_ElseputError : PySem.W.typeIn K (.ref a_ElseputError) = some (.type "type"))
    (ms_BadName_ElseputError : PySem.W.subIn K (.ref a_BadName) (.ref a_ElseputError) = some true)
    (ms_BadPlan_ElseputError : PySem.W.subIn K (.ref a_BadPlan) (.ref a_ElseputError) = some true)
    (ms_BadText_ElseputError : PySem.W.subIn K (.ref a_BadText) (.ref a_ElseputError) = some true)
    (kit_BadName_BadText : PySem.W.kitOne K (.ref a_BadName) (.ref a_BadText) = some false)
    (kit_BadName_BadPlan : PySem.W.kitOne K (.ref a_BadName) (.ref a_BadPlan) = some false)
    (kit_BadName_ValueError : PySem.W.kitOne K (.ref a_BadName) (.type "ValueError") = some true)
    (kit_BadPlan_BadText : PySem.W.kitOne K (.ref a_BadPlan) (.ref a_BadText) = some false)
    (kit_BadPlan_BadPlan : PySem.W.kitOne K (.ref a_BadPlan) (.ref a_BadPlan) = some true)
    (kit_BadPlan_ValueError : PySem.W.kitOne K (.ref a_BadPlan) (.type "ValueError") = some true)
    (kit_BadText_BadText : PySem.W.kitOne K (.ref a_BadText) (.ref a_BadText) = some true)
    (kit_BadText_BadPlan : PySem.W.kitOne K (.ref a_BadText) (.ref a_BadPlan) = some false)
    (kit_BadText_ValueError : PySem.W.kitOne K (.ref a_BadText) (.type "ValueError") = some true)
    : ∃ fd : FuncData, (∀ (s : Shared) (v : Value), BindsTo s fd ⟨[v], []⟩ [("_law_script", v)]) ∧ ∀ base : Heap, K.In base → base.Ns mainGlobals mg → FnOk l.prog w K mg base CX0 60 fa fd ["_law_script"] (spLaw K) := by
  have e := hfa.symm.trans (PySem.W.mg_of X G a_law)
  cases e
  have XK_BadName : ExK K a_BadName f_BadName ["name"] := exk_mk xc_BadName ref_BadName sa_BadName eb_BadName ty_BadName kC_BadName sup_BadName sv_BadName mro_BadName iC_BadName tI_BadName (fun f hf => by simp only [List.mem_cons, List.not_mem_nil, or_false] at hf; subst hf; exact no0_BadName) ga_BadName gg_BadName hd_BadName hcl_BadName hn_BadName ht_BadName hm_BadName
  have XK_BadText : ExK K a_BadText f_BadText ["line", "column"] := exk_mk xc_BadText ref_BadText sa_BadText eb_BadText ty_BadText kC_BadText sup_BadText sv_BadText mro_BadText iC_BadText tI_BadText (fun f hf => by simp only [List.mem_cons, List.not_mem_nil, or_false] at hf; rcases hf with rfl | rfl; exact no0_BadText; exact no1_BadText) ga_BadText gg_BadText hd_BadText hcl_BadText hn_BadText ht_BadText hm_BadText
  have XK_BadPlan : ExK K a_BadPlan f_BadPlan [] := exk_mk xc_BadPlan ref_BadPlan sa_BadPlan eb_BadPlan ty_BadPlan kC_BadPlan sup_BadPlan sv_BadPlan mro_BadPlan iC_BadPlan tI_BadPlan (fun f hf => nomatch hf) ga_BadPlan gg_BadPlan hd_BadPlan hcl_BadPlan hn_BadPlan ht_BadPlan hm_BadPlan
  have T : Gs K mg t_DIGITS t_LETTERS t_LONGEST_NAME a_DEEDS a_MARKS a_RESERVED a_SIGNS a_BadName a_BadPlan a_BadText a_ElseputError a_Plan a_Reader := { z_ValueError := PySem.W.mg_none_of X G z_ValueError, z_all := PySem.W.mg_none_of X G z_all, z_bool := PySem.W.mg_none_of X G z_bool, z_dict := PySem.W.mg_none_of X G z_dict, z_int := PySem.W.mg_none_of X G z_int, z_isinstance := PySem.W.mg_none_of X G z_isinstance, z_len := PySem.W.mg_none_of X G z_len, z_list := PySem.W.mg_none_of X G z_list, z_range := PySem.W.mg_none_of X G z_range, z_set := PySem.W.mg_none_of X G z_set, z_staticmethod := PySem.W.mg_none_of X G z_staticmethod, z_str := PySem.W.mg_none_of X G z_str, z_super := PySem.W.mg_none_of X G z_super, z_tuple := PySem.W.mg_none_of X G z_tuple, g_DIGITS := PySem.W.mg_of X G g_DIGITS, g_LETTERS := PySem.W.mg_of X G g_LETTERS, g_LONGEST_NAME := PySem.W.mg_of X G g_LONGEST_NAME, g_DEEDS := PySem.W.mg_of X G g_DEEDS, g_MARKS := PySem.W.mg_of X G g_MARKS, g_RESERVED := PySem.W.mg_of X G g_RESERVED, g_SIGNS := PySem.W.mg_of X G g_SIGNS, g_BadName := PySem.W.mg_of X G g_BadName, g_BadPlan := PySem.W.mg_of X G g_BadPlan, g_BadText := PySem.W.mg_of X G g_BadText, g_ElseputError := PySem.W.mg_of X G g_ElseputError, g_Plan := PySem.W.mg_of X G g_Plan, g_Reader := PySem.W.mg_of X G g_Reader, q_DEEDS := fun _ => .inr ⟨_, _, _, l_DEEDS, rfl, rfl, (by have e : _ = its_DEEDS.size := v_DEEDS.length.trans Array.length_toList; rw [← e]; decide), v_DEEDS⟩, q_MARKS := fun _ => .inr ⟨_, _, _, l_MARKS, rfl, rfl, (by have e : _ = its_MARKS.size := v_MARKS.length.trans Array.length_toList; rw [← e]; decide), v_MARKS⟩, q_RESERVED := fun _ => .inr ⟨_, _, _, l_RESERVED, rfl, rfl, (by have e : _ = its_RESERVED.size := v_RESERVED.length.trans Array.length_toList; rw [← e]; decide), v_RESERVED⟩, q_SIGNS := fun _ => .inr ⟨_, _, _, l_SIGNS, rfl, rfl, (by have e : _ = its_SIGNS.size := v_SIGNS.length.trans Array.length_toList; rw [← e]; decide), v_SIGNS⟩, n_ElseputError := g_ElseputError, n_BadName := g_BadName, n_BadText := g_BadText, n_BadPlan := g_BadPlan, n_Reader := g_Reader, n_Plan := g_Plan, x_BadName := ⟨XK_BadName.no, XK_BadName.xf, XK_BadName.is⟩, x_BadText := ⟨XK_BadText.no, XK_BadText.xf, XK_BadText.is⟩, x_BadPlan := ⟨XK_BadPlan.no, XK_BadPlan.xf, XK_BadPlan.is⟩, cl_Reader := ⟨pg_Reader, hx_Reader, po_Reader, st_Reader⟩, rd_Reader := ⟨rr_Reader, rg_Reader⟩, na_Reader__at := na_Reader__at, na_Reader__end := na_Reader__end, na_Reader__number := na_Reader__number, na_Reader__parts := na_Reader__parts, cl_Plan := ⟨pg_Plan, hx_Plan, po_Plan, st_Plan⟩, rd_Plan := ⟨rr_Plan, rg_Plan⟩, na_Plan_kept := na_Plan_kept, na_Plan_locked := na_Plan_locked, na_Plan_steps := na_Plan_steps, m_BadName_ElseputError := PySem.W.exm_ref mb_ElseputError md_ElseputError mt_ElseputError ms_BadName_ElseputError, m_BadPlan_ElseputError := PySem.W.exm_ref mb_ElseputError md_ElseputError mt_ElseputError ms_BadPlan_ElseputError, m_BadText_ElseputError := PySem.W.exm_ref mb_ElseputError md_ElseputError mt_ElseputError ms_BadText_ElseputError, k_BadName_BadText := kit_BadName_BadText, k_BadName_BadPlan := kit_BadName_BadPlan, k_BadName_ValueError := kit_BadName_ValueError, k_BadPlan_BadText := kit_BadPlan_BadText, k_BadPlan_BadPlan := kit_BadPlan_BadPlan, k_BadPlan_ValueError := kit_BadPlan_ValueError, k_BadText_BadText := kit_BadText_BadText, k_BadText_BadPlan := kit_BadText_BadPlan, k_BadText_ValueError := kit_BadText_ValueError }
  have F_is_name := fun_mk (st := s_is_name) l_is_name c_is_name k_is_name
  have b_is_name := F_is_name.binds (ps := ["text"]) fun _ _ _ _ _ _ us hl => match us, hl with | [_], _ => rfl
  have F_run_end := fun_mk (st := s_run_end) l_run_end c_run_end k_run_end
  have b_run_end := F_run_end.binds (ps := ["line", "at", "characters"]) fun _ _ _ _ _ _ us hl => match us, hl with | [_, _, _], _ => rfl
  have F_token_end := fun_mk (st := s_token_end) l_token_end c_token_end k_token_end
  have b_token_end := F_token_end.binds (ps := ["line", "at"]) fun _ _ _ _ _ _ us hl => match us, hl with | [_, _], _ => rfl
  have F_split_line := fun_mk (st := s_split_line) l_split_line c_split_line k_split_line
  have b_split_line := F_split_line.binds (ps := ["line", "number"]) fun _ _ _ _ _ _ us hl => match us, hl with | [_, _], _ => rfl
  have F_check_name := fun_mk (st := s_check_name) l_check_name c_check_name k_check_name
  have b_check_name := F_check_name.binds (ps := ["text"]) fun _ _ _ _ _ _ us hl => match us, hl with | [_], _ => rfl
  have F_looked_at := fun_mk (st := s_looked_at) l_looked_at c_looked_at k_looked_at
  have b_looked_at := F_looked_at.binds (ps := ["steps"]) fun _ _ _ _ _ _ us hl => match us, hl with | [_], _ => rfl
  have F_step_fits := fun_mk (st := s_step_fits) l_step_fits c_step_fits k_step_fits
  have b_step_fits := F_step_fits.binds (ps := ["steps", "at"]) fun _ _ _ _ _ _ us hl => match us, hl with | [_, _], _ => rfl
  have F_steps_fit := fun_mk (st := s_steps_fit) l_steps_fit c_steps_fit k_steps_fit
  have b_steps_fit := F_steps_fit.binds (ps := ["steps"]) fun _ _ _ _ _ _ us hl => match us, hl with | [_], _ => rfl
  have F_keys_fit := fun_mk (st := s_keys_fit) l_keys_fit c_keys_fit k_keys_fit
  have b_keys_fit := F_keys_fit.binds (ps := ["steps", "names"]) fun _ _ _ _ _ _ us hl => match us, hl with | [_, _], _ => rfl
  have F_Reader_at_end := fun_mk (st := s_Reader_at_end) l_Reader_at_end c_Reader_at_end k_Reader_at_end
  have b_Reader_at_end := F_Reader_at_end.binds (ps := ["self"]) fun _ _ _ _ _ _ us hl => match us, hl with | [_], _ => rfl
  have F_Reader_ahead := fun_mk (st := s_Reader_ahead) l_Reader_ahead c_Reader_ahead k_Reader_ahead
  have b_Reader_ahead := F_Reader_ahead.binds (ps := ["self"]) fun _ _ _ _ _ _ us hl => match us, hl with | [_], _ => rfl
  have F_Reader__refuse := fun_mk (st := s_Reader__refuse) l_Reader__refuse c_Reader__refuse k_Reader__refuse
  have b_Reader__refuse := F_Reader__refuse.binds (ps := ["self"]) fun _ _ _ _ _ _ us hl => match us, hl with | [_], _ => rfl
  have F_Reader__take_if := fun_mk (st := s_Reader__take_if) l_Reader__take_if c_Reader__take_if k_Reader__take_if
  have b_Reader__take_if := F_Reader__take_if.binds (ps := ["self", "fits"]) fun _ _ _ _ _ _ us hl => match us, hl with | [_, _], _ => rfl
  have F_Reader_take_one := fun_mk (st := s_Reader_take_one) l_Reader_take_one c_Reader_take_one k_Reader_take_one
  have b_Reader_take_one := F_Reader_take_one.binds (ps := ["self", "words"]) fun _ _ _ _ _ _ us hl => match us, hl with | [_, _], _ => rfl
  have F_Reader_take_name := fun_mk (st := s_Reader_take_name) l_Reader_take_name c_Reader_take_name k_Reader_take_name
  have b_Reader_take_name := F_Reader_take_name.binds (ps := ["self"]) fun _ _ _ _ _ _ us hl => match us, hl with | [_], _ => rfl
  have F_parse_step := fun_mk (st := s_parse_step) l_parse_step c_parse_step k_parse_step
  have b_parse_step := F_parse_step.binds (ps := ["reader"]) fun _ _ _ _ _ _ us hl => match us, hl with | [_], _ => rfl
  have F_parse_keys := fun_mk (st := s_parse_keys) l_parse_keys c_parse_keys k_parse_keys
  have b_parse_keys := F_parse_keys.binds (ps := ["reader"]) fun _ _ _ _ _ _ us hl => match us, hl with | [_], _ => rfl
  have F_Reader_skip := fun_mk (st := s_Reader_skip) l_Reader_skip c_Reader_skip k_Reader_skip
  have b_Reader_skip := F_Reader_skip.binds (ps := ["self", "token"]) fun _ _ _ _ _ _ us hl => match us, hl with | [_, _], _ => rfl
  have F_Reader_take_end := fun_mk (st := s_Reader_take_end) l_Reader_take_end c_Reader_take_end k_Reader_take_end
  have b_Reader_take_end := F_Reader_take_end.binds (ps := ["self"]) fun _ _ _ _ _ _ us hl => match us, hl with | [_], _ => rfl
  have F_parse_plan := fun_mk (st := s_parse_plan) l_parse_plan c_parse_plan k_parse_plan
  have b_parse_plan := F_parse_plan.binds (ps := ["reader"]) fun _ _ _ _ _ _ us hl => match us, hl with | [_], _ => rfl
  have F__law_state := fun_mk (st := s__law_state) l__law_state c__law_state k__law_state
  have b__law_state := F__law_state.binds (ps := ["_law_script"]) fun _ _ _ _ _ _ us hl => match us, hl with | [_], _ => rfl
  have F__law_draw := fun_mk (st := s__law_draw) l__law_draw c__law_draw k__law_draw
  have b__law_draw := F__law_draw.binds (ps := ["_law_state_here", "_law_many"]) fun _ _ _ _ _ _ us hl => match us, hl with | [_, _], _ => rfl
  have F__law_pick := fun_mk (st := s__law_pick) l__law_pick c__law_pick k__law_pick
  have b__law_pick := F__law_pick.binds (ps := ["_law_state_here", "_law_row"]) fun _ _ _ _ _ _ us hl => match us, hl with | [_, _], _ => rfl
  have F__law_mixed := fun_mk (st := s__law_mixed) l__law_mixed c__law_mixed k__law_mixed
  have b__law_mixed := F__law_mixed.binds (ps := ["_law_state_here", "_law_row"]) fun _ _ _ _ _ _ us hl => match us, hl with | [_, _], _ => rfl
  have F__law_names := fun_mk (st := s__law_names) l__law_names c__law_names k__law_names
  have b__law_names := F__law_names.binds (ps := ["_law_state_here", "_law_many"]) fun _ _ _ _ _ _ us hl => match us, hl with | [_, _], _ => rfl
  have F__law_is_int := fun_mk (st := s__law_is_int) l__law_is_int c__law_is_int k__law_is_int
  have b__law_is_int := F__law_is_int.binds (ps := ["_law_thing"]) fun _ _ _ _ _ _ us hl => match us, hl with | [_], _ => rfl
  have F__law_same := fun_mk (st := s__law_same) l__law_same c__law_same k__law_same
  have b__law_same := F__law_same.binds (ps := ["_law_actual", "_law_due_here"]) fun _ _ _ _ _ _ us hl => match us, hl with | [_, _], _ => rfl
  have F__law_wild_steps := fun_mk (st := s__law_wild_steps) l__law_wild_steps c__law_wild_steps k__law_wild_steps
  have b__law_wild_steps := F__law_wild_steps.binds (ps := ["_law_state_here", "_law_carried"]) fun _ _ _ _ _ _ us hl => match us, hl with | [_, _], _ => rfl
  have F__law_some := fun_mk (st := s__law_some) l__law_some c__law_some k__law_some
  have b__law_some := F__law_some.binds (ps := ["_law_state_here", "_law_row", "_law_share"]) fun _ _ _ _ _ _ us hl => match us, hl with | [_, _, _], _ => rfl
  have F__law_text := fun_mk (st := s__law_text) l__law_text c__law_text k__law_text
  have b__law_text := F__law_text.binds (ps := ["_law_steps", "_law_row_keys", "_law_held_keys"]) fun _ _ _ _ _ _ us hl => match us, hl with | [_, _, _], _ => rfl
  have F__law_parts := fun_mk (st := s__law_parts) l__law_parts c__law_parts k__law_parts
  have b__law_parts := F__law_parts.binds (ps := ["_law_steps", "_law_row_keys", "_law_held_keys"]) fun _ _ _ _ _ _ us hl => match us, hl with | [_, _, _], _ => rfl
  have F__law_line := fun_mk (st := s__law_line) l__law_line c__law_line k__law_line
  have b__law_line := F__law_line.binds (ps := ["_law_state_here", "_law_parts_here"]) fun _ _ _ _ _ _ us hl => match us, hl with | [_, _], _ => rfl
  have F__law_strange := fun_mk (st := s__law_strange) l__law_strange c__law_strange k__law_strange
  have b__law_strange := F__law_strange.binds (ps := []) fun _ _ _ _ _ _ us hl => match us, hl with | [], _ => rfl
  have F__law_misfit := fun_mk (st := s__law_misfit) l__law_misfit c__law_misfit k__law_misfit
  have b__law_misfit := F__law_misfit.binds (ps := ["_law_parts_here", "_law_names_here"]) fun _ _ _ _ _ _ us hl => match us, hl with | [_, _], _ => rfl
  have F__law_plan_of := fun_mk (st := s__law_plan_of) l__law_plan_of c__law_plan_of k__law_plan_of
  have b__law_plan_of := F__law_plan_of.binds (ps := ["_law_parts_here"]) fun _ _ _ _ _ _ us hl => match us, hl with | [_], _ => rfl
  have F__law_is_plan := fun_mk (st := s__law_is_plan) l__law_is_plan c__law_is_plan k__law_is_plan
  have b__law_is_plan := F__law_is_plan.binds (ps := ["_law_steps", "_law_row_keys", "_law_held_keys"]) fun _ _ _ _ _ _ us hl => match us, hl with | [_, _, _], _ => rfl
  have F__law_due := fun_mk (st := s__law_due) l__law_due c__law_due k__law_due
  have b__law_due := F__law_due.binds (ps := ["_law_line_here", "_law_columns", "_law_parts_here", "_law_names_here"]) fun _ _ _ _ _ _ us hl => match us, hl with | [_, _, _, _], _ => rfl
  have F_Plan_text := fun_mk (st := s_Plan_text) l_Plan_text c_Plan_text k_Plan_text
  have b_Plan_text := F_Plan_text.binds (ps := ["self"]) fun _ _ _ _ _ _ us hl => match us, hl with | [_], _ => rfl
  have F_Plan___init__ := fundk_mk (st := s_Plan___init__) l_Plan___init__ c_Plan___init__ k_Plan___init__ ek1_Plan___init__ ek2_Plan___init__
  have b_Plan___init__ : Kw2 K _ ["self", "steps", "locked", "kept"] 2 "locked" "kept" (.ref e1_Plan___init__) (.ref e2_Plan___init__) := kw2_mk 2 F_Plan___init__ (fun _ _ _ _ _ _ us _ _ l => match us, l with | [_, _], _ => ⟨_, _, _, _, _, _, rfl, rfl, _, _, _, _, _, _, rfl, rfl, rfl⟩) (fun _ _ _ _ _ _ us _ _ l => match us, l with | [_, _], _ => ⟨_, _, _, _, _, _, rfl, rfl, rfl⟩) (fun _ _ _ _ _ _ us _ _ l => match us, l with | [_, _], _ => ⟨_, _, _, _, _, _, rfl, rfl, rfl⟩) (fun _ _ _ _ _ _ us _ _ l => match us, l with | [_, _], _ => rfl)
  have t1_Plan___init__ : ∀ H, SqT K H e1_Plan___init__ [] := (fun H => .inr ⟨_, _, _, el_1_Plan___init__, rfl, rfl, (by have e : _ = ei1_Plan___init__.size := v_e1_Plan___init__.length.trans Array.length_toList; rw [← e]; decide), v_e1_Plan___init__⟩)
  have t2_Plan___init__ : ∀ H, SqT K H e2_Plan___init__ [] := (fun H => .inr ⟨_, _, _, el_2_Plan___init__, rfl, rfl, (by have e : _ = ei2_Plan___init__.size := v_e2_Plan___init__.length.trans Array.length_toList; rw [← e]; decide), v_e2_Plan___init__⟩)
  have F_Reader___init__ := fund_mk (st := s_Reader___init__) (dvs := [(.int 1)]) l_Reader___init__ c_Reader___init__ k_Reader___init__ ld_Reader___init__ v_d_Reader___init__ (by simp)
  have b_Reader___init__ := F_Reader___init__.binds1 (ps := ["self", "line", "number"]) 2 0 (by simp) (by rfl) fun _ _ _ _ _ _ _ us its hu hi => match us, hu, its, hi with | [_, _], _, [_], _ => ⟨_, rfl, rfl⟩
  have F_Plan_read := fun_mk (st := s_Plan_read) l_Plan_read c_Plan_read k_Plan_read
  have b_Plan_read := F_Plan_read.binds (ps := ["line"]) fun _ _ _ _ _ _ us hl => match us, hl with | [_], _ => rfl
  have F__law_read := fun_mk (st := s__law_read) l__law_read c__law_read k__law_read
  have b__law_read := F__law_read.binds (ps := ["_law_line_here"]) fun _ _ _ _ _ _ us hl => match us, hl with | [_], _ => rfl
  have F__law_bent_rows := fun_mk (st := s__law_bent_rows) l__law_bent_rows c__law_bent_rows k__law_bent_rows
  have b__law_bent_rows := F__law_bent_rows.binds (ps := ["_law_state_here", "_law_rows", "_law_names_here"]) fun _ _ _ _ _ _ us hl => match us, hl with | [_, _, _], _ => rfl
  have F__law_bent := fun_mk (st := s__law_bent) l__law_bent c__law_bent k__law_bent
  have b__law_bent := F__law_bent.binds (ps := ["_law_state_here", "_law_rows", "_law_names_here"]) fun _ _ _ _ _ _ us hl => match us, hl with | [_, _, _], _ => rfl
  have F_law := fun_mk (st := s_law) l_law c_law k_law
  have b_law := F_law.binds (ps := ["_law_script"]) fun _ _ _ _ _ _ us hl => match us, hl with | [_], _ => rfl
  refine ⟨PySem.W.fnOf "law" "law" (defArgs s_law) (defBody s_law) (defScope s_law) .none kV_law dc_law pm_law an_law cd_law ct_law, fun s v => .of_eq rfl, fun base _ _ => ?_⟩
  have C_BadName : CalE l.prog w K mg base 1 "BadName" a_BadName f_BadName _ ["self", "name"] okx_BadName fs_BadName ["name"] := ⟨ok_BadName XK_BadName lf_BadName cd_BadName lc_BadName v2_BadName fe_BadName lcc_BadName hD_BadName (PySem.W.mg_none_of X G z_super) st_any htop, .all fun us hl => (match us, hl with | [_, _], _ => rfl), XK_BadName, PySem.W.mg_of X G g_BadName⟩
  have C_BadPlan : CalE0 l.prog w K mg base 1 "BadPlan" a_BadPlan f_BadPlan _ ["self"] := ⟨ok_BadPlan XK_BadPlan lf_BadPlan cd_BadPlan lc_BadPlan v2_BadPlan fe_BadPlan lcc_BadPlan hD_BadPlan (PySem.W.mg_none_of X G z_super) st_any htop, .all fun us hl => (match us, hl with | [_], _ => rfl), XK_BadPlan, PySem.W.mg_of X G g_BadPlan⟩
  have C_BadText : CalE l.prog w K mg base 1 "BadText" a_BadText f_BadText _ ["self", "line", "column"] okx_BadText fs_BadText ["line", "column"] := ⟨ok_BadText XK_BadText lf_BadText cd_BadText lc_BadText v2_BadText fe_BadText lcc_BadText hD_BadText (PySem.W.mg_none_of X G z_super) st_any htop, .all fun us hl => (match us, hl with | [_, _, _], _ => rfl), XK_BadText, PySem.W.mg_of X G g_BadText⟩
  have C_is_name : Cal l.prog w K mg base CX0 1 "is_name" f_is_name _ ["text"] (sp_is_name K) := ⟨ok_is_name F_is_name T, b_is_name, k_is_name, PySem.W.mg_of X G a_is_name⟩
  have C_run_end : Cal l.prog w K mg base CX0 1 "run_end" f_run_end _ ["line", "at", "characters"] (sp_run_end K) := ⟨ok_run_end F_run_end T, b_run_end, k_run_end, PySem.W.mg_of X G a_run_end⟩
  have C_token_end : Cal l.prog w K mg base CX0 2 "token_end" f_token_end _ ["line", "at"] (sp_token_end K) := ⟨ok_token_end F_token_end T C_run_end, b_token_end, k_token_end, PySem.W.mg_of X G a_token_end⟩
  have C_split_line : Cal l.prog w K mg base (L2.CX l.prog w) 3 "split_line" f_split_line _ ["line", "number"] (sp_split_line K) := ⟨ok_split_line F_split_line T C_token_end C_BadText, b_split_line, k_split_line, PySem.W.mg_of X G a_split_line⟩
  have C_check_name : Cal l.prog w K mg base (L2.CX l.prog w) 3 "check_name" f_check_name _ ["text"] (sp_check_name K) := ⟨ok_check_name F_check_name T C_is_name C_BadName, b_check_name, k_check_name, PySem.W.mg_of X G a_check_name⟩
  have C_looked_at : Cal l.prog w K mg base CX0 1 "looked_at" f_looked_at _ ["steps"] (sp_looked_at K) := ⟨ok_looked_at F_looked_at T, b_looked_at, k_looked_at, PySem.W.mg_of X G a_looked_at⟩
  have C_step_fits : Cal l.prog w K mg base CX0 1 "step_fits" f_step_fits _ ["steps", "at"] (sp_step_fits K) := ⟨ok_step_fits F_step_fits T, b_step_fits, k_step_fits, PySem.W.mg_of X G a_step_fits⟩
  have C_steps_fit : Cal l.prog w K mg base CX0 2 "steps_fit" f_steps_fit _ ["steps"] (sp_steps_fit K) := ⟨ok_steps_fit F_steps_fit T C_step_fits, b_steps_fit, k_steps_fit, PySem.W.mg_of X G a_steps_fit⟩
  have C_keys_fit : Cal l.prog w K mg base CX0 1 "keys_fit" f_keys_fit _ ["steps", "names"] (sp_keys_fit K) := ⟨ok_keys_fit F_keys_fit T, b_keys_fit, k_keys_fit, PySem.W.mg_of X G a_keys_fit⟩
  have C_Reader_at_end : CalM l.prog w K mg base CX0 1 a_Reader "at_end" f_Reader_at_end _ ["self"] (sp_Reader_at_end K) := ⟨⟨ok_Reader_at_end F_Reader_at_end T, b_Reader_at_end⟩, ⟨pg_Reader, hx_Reader, po_Reader, st_Reader⟩, ⟨fa_Reader_at_end, fn_Reader_at_end, k_Reader_at_end⟩⟩
  have C_Reader_ahead : CalM l.prog w K mg base CX0 2 a_Reader "ahead" f_Reader_ahead _ ["self"] (sp_Reader_ahead K) := ⟨⟨ok_Reader_ahead F_Reader_ahead T C_Reader_at_end, b_Reader_ahead⟩, ⟨pg_Reader, hx_Reader, po_Reader, st_Reader⟩, ⟨fa_Reader_ahead, fn_Reader_ahead, k_Reader_ahead⟩⟩
  have C_Reader__refuse : CalM l.prog w K mg base (L2.CX l.prog w) 3 a_Reader "_refuse" f_Reader__refuse _ ["self"] (sp_Reader__refuse K) := ⟨⟨ok_Reader__refuse F_Reader__refuse T C_Reader_at_end C_BadText, b_Reader__refuse⟩, ⟨pg_Reader, hx_Reader, po_Reader, st_Reader⟩, ⟨fa_Reader__refuse, fn_Reader__refuse, k_Reader__refuse⟩⟩
  have C_Reader__take_if : CalM l.prog w K mg base (L2.CX l.prog w) 4 a_Reader "_take_if" f_Reader__take_if _ ["self", "fits"] (sp_Reader__take_if K) := ⟨⟨ok_Reader__take_if F_Reader__take_if T C_Reader_ahead C_Reader__refuse, b_Reader__take_if⟩, ⟨pg_Reader, hx_Reader, po_Reader, st_Reader⟩, ⟨fa_Reader__take_if, fn_Reader__take_if, k_Reader__take_if⟩⟩
  have C_Reader_take_one : CalM l.prog w K mg base (L2.CX l.prog w) 5 a_Reader "take_one" f_Reader_take_one _ ["self", "words"] (sp_Reader_take_one K) := ⟨⟨ok_Reader_take_one F_Reader_take_one T C_Reader__take_if C_Reader_ahead, b_Reader_take_one⟩, ⟨pg_Reader, hx_Reader, po_Reader, st_Reader⟩, ⟨fa_Reader_take_one, fn_Reader_take_one, k_Reader_take_one⟩⟩
  have C_Reader_take_name : CalM l.prog w K mg base (L2.CX l.prog w) 5 a_Reader "take_name" f_Reader_take_name _ ["self"] (sp_Reader_take_name K) := ⟨⟨ok_Reader_take_name F_Reader_take_name T C_is_name C_Reader__take_if C_Reader_ahead, b_Reader_take_name⟩, ⟨pg_Reader, hx_Reader, po_Reader, st_Reader⟩, ⟨fa_Reader_take_name, fn_Reader_take_name, k_Reader_take_name⟩⟩
  have C_parse_step : Cal l.prog w K mg base (L2.CX l.prog w) 6 "parse_step" f_parse_step _ ["reader"] (sp_parse_step K) := ⟨ok_parse_step F_parse_step T C_Reader_take_one C_Reader_take_name, b_parse_step, k_parse_step, PySem.W.mg_of X G a_parse_step⟩
  have C_parse_keys : Cal l.prog w K mg base (L2.CX l.prog w) 6 "parse_keys" f_parse_keys _ ["reader"] (sp_parse_keys K) := ⟨ok_parse_keys F_parse_keys T C_Reader_take_name C_Reader_at_end C_Reader_ahead, b_parse_keys, k_parse_keys, PySem.W.mg_of X G a_parse_keys⟩
  have C_Reader_skip : CalM l.prog w K mg base CX0 3 a_Reader "skip" f_Reader_skip _ ["self", "token"] (sp_Reader_skip K) := ⟨⟨ok_Reader_skip F_Reader_skip T C_Reader_ahead, b_Reader_skip⟩, ⟨pg_Reader, hx_Reader, po_Reader, st_Reader⟩, ⟨fa_Reader_skip, fn_Reader_skip, k_Reader_skip⟩⟩
  have C_Reader_take_end : CalM l.prog w K mg base (L2.CX l.prog w) 4 a_Reader "take_end" f_Reader_take_end _ ["self"] (sp_Reader_take_end K) := ⟨⟨ok_Reader_take_end F_Reader_take_end T C_Reader_at_end C_Reader__refuse, b_Reader_take_end⟩, ⟨pg_Reader, hx_Reader, po_Reader, st_Reader⟩, ⟨fa_Reader_take_end, fn_Reader_take_end, k_Reader_take_end⟩⟩
  have C_parse_plan : Cal l.prog w K mg base (L2.CX l.prog w) 7 "parse_plan" f_parse_plan _ ["reader"] (sp_parse_plan K) := ⟨ok_parse_plan F_parse_plan T C_parse_step C_parse_keys C_Reader_skip C_Reader_take_end C_Reader_take_one, b_parse_plan, k_parse_plan, PySem.W.mg_of X G a_parse_plan⟩
  have C__law_state : Cal l.prog w K mg base CX0 1 "_law_state" f__law_state _ ["_law_script"] (sp__law_state K) := ⟨ok__law_state F__law_state T, b__law_state, k__law_state, PySem.W.mg_of X G a__law_state⟩
  have C__law_draw : Cal l.prog w K mg base CX0 1 "_law_draw" f__law_draw _ ["_law_state_here", "_law_many"] (sp__law_draw K) := ⟨ok__law_draw F__law_draw T, b__law_draw, k__law_draw, PySem.W.mg_of X G a__law_draw⟩
  have C__law_pick : Cal l.prog w K mg base CX0 2 "_law_pick" f__law_pick _ ["_law_state_here", "_law_row"] (sp__law_pick K) := ⟨ok__law_pick F__law_pick T C__law_draw, b__law_pick, k__law_pick, PySem.W.mg_of X G a__law_pick⟩
  have C__law_mixed : Cal l.prog w K mg base CX0 2 "_law_mixed" f__law_mixed _ ["_law_state_here", "_law_row"] (sp__law_mixed K) := ⟨ok__law_mixed F__law_mixed T C__law_draw, b__law_mixed, k__law_mixed, PySem.W.mg_of X G a__law_mixed⟩
  have C__law_names : Cal l.prog w K mg base CX0 2 "_law_names" f__law_names _ ["_law_state_here", "_law_many"] (sp__law_names K) := ⟨ok__law_names F__law_names T C__law_draw, b__law_names, k__law_names, PySem.W.mg_of X G a__law_names⟩
  have C__law_is_int : Cal l.prog w K mg base CX0 1 "_law_is_int" f__law_is_int _ ["_law_thing"] (sp__law_is_int K) := ⟨ok__law_is_int F__law_is_int T, b__law_is_int, k__law_is_int, PySem.W.mg_of X G a__law_is_int⟩
  have C__law_same : Cal l.prog w K mg base CX0 26 "_law_same" f__law_same _ ["_law_actual", "_law_due_here"] (sp__law_same K) := ⟨ok__law_same F__law_same T C__law_is_int b__law_same k__law_same (PySem.W.mg_of X G a__law_same), b__law_same, k__law_same, PySem.W.mg_of X G a__law_same⟩
  have C__law_wild_steps : Cal l.prog w K mg base CX0 3 "_law_wild_steps" f__law_wild_steps _ ["_law_state_here", "_law_carried"] (sp__law_wild_steps K) := ⟨ok__law_wild_steps F__law_wild_steps T C__law_mixed C__law_draw, b__law_wild_steps, k__law_wild_steps, PySem.W.mg_of X G a__law_wild_steps⟩
  have C__law_some : Cal l.prog w K mg base CX0 2 "_law_some" f__law_some _ ["_law_state_here", "_law_row", "_law_share"] (sp__law_some K) := ⟨ok__law_some F__law_some T C__law_draw, b__law_some, k__law_some, PySem.W.mg_of X G a__law_some⟩
  have C__law_text : Cal l.prog w K mg base CX0 1 "_law_text" f__law_text _ ["_law_steps", "_law_row_keys", "_law_held_keys"] (sp__law_text K) := ⟨ok__law_text F__law_text T, b__law_text, k__law_text, PySem.W.mg_of X G a__law_text⟩
  have C__law_parts : Cal l.prog w K mg base CX0 1 "_law_parts" f__law_parts _ ["_law_steps", "_law_row_keys", "_law_held_keys"] (sp__law_parts K) := ⟨ok__law_parts F__law_parts T, b__law_parts, k__law_parts, PySem.W.mg_of X G a__law_parts⟩
  have C__law_line : Cal l.prog w K mg base CX0 2 "_law_line" f__law_line _ ["_law_state_here", "_law_parts_here"] (sp__law_line K) := ⟨ok__law_line F__law_line T C__law_draw, b__law_line, k__law_line, PySem.W.mg_of X G a__law_line⟩
  have C__law_strange : Cal l.prog w K mg base CX0 1 "_law_strange" f__law_strange _ [] (sp__law_strange K) := ⟨ok__law_strange F__law_strange T, b__law_strange, k__law_strange, PySem.W.mg_of X G a__law_strange⟩
  have C__law_misfit : Cal l.prog w K mg base CX0 1 "_law_misfit" f__law_misfit _ ["_law_parts_here", "_law_names_here"] (sp__law_misfit K) := ⟨ok__law_misfit F__law_misfit T, b__law_misfit, k__law_misfit, PySem.W.mg_of X G a__law_misfit⟩
  have C__law_plan_of : Cal l.prog w K mg base CX0 1 "_law_plan_of" f__law_plan_of _ ["_law_parts_here"] (sp__law_plan_of K) := ⟨ok__law_plan_of F__law_plan_of T, b__law_plan_of, k__law_plan_of, PySem.W.mg_of X G a__law_plan_of⟩
  have C__law_is_plan : Cal l.prog w K mg base CX0 1 "_law_is_plan" f__law_is_plan _ ["_law_steps", "_law_row_keys", "_law_held_keys"] (sp__law_is_plan K) := ⟨ok__law_is_plan F__law_is_plan T, b__law_is_plan, k__law_is_plan, PySem.W.mg_of X G a__law_is_plan⟩
  have C__law_due : Cal l.prog w K mg base CX0 2 "_law_due" f__law_due _ ["_law_line_here", "_law_columns", "_law_parts_here", "_law_names_here"] (sp__law_due K) := ⟨ok__law_due F__law_due T C__law_misfit C__law_plan_of C__law_is_plan C__law_text C__law_strange, b__law_due, k__law_due, PySem.W.mg_of X G a__law_due⟩
  have C_Plan_text : CalM l.prog w K mg base CX0 1 a_Plan "text" f_Plan_text _ ["self"] (sp_Plan_text K) := ⟨⟨ok_Plan_text F_Plan_text T, b_Plan_text⟩, ⟨pg_Plan, hx_Plan, po_Plan, st_Plan⟩, ⟨fa_Plan_text, fn_Plan_text, k_Plan_text⟩⟩
  have C_Plan___init__ : CalK l.prog w K mg base (L2.CX l.prog w) 4 "Plan" a_Plan f_Plan___init__ _ ["self", "steps", "locked", "kept"] 2 "locked" "kept" e1_Plan___init__ e2_Plan___init__ (sp_Plan___init__ K) := ⟨ok_Plan___init__ F_Plan___init__ T C_check_name C_steps_fit C_keys_fit C_looked_at C_BadPlan, b_Plan___init__, ⟨mi_Plan, fa_Plan___init__, fn_Plan___init__, ko_Plan⟩, PySem.W.mg_of X G g_Plan, t1_Plan___init__, t2_Plan___init__⟩
  have C_Reader___init__ : CalID l.prog w K mg base (L2.CX l.prog w) 4 "Reader" a_Reader f_Reader___init__ _ ["self", "line", "number"] [(.int 1)] (sp_Reader___init__ K) := ⟨ok_Reader___init__ F_Reader___init__ T C_split_line, b_Reader___init__, ⟨mi_Reader, fa_Reader___init__, fn_Reader___init__, ko_Reader⟩, PySem.W.mg_of X G g_Reader⟩
  have C_Plan_read : CalS l.prog w K mg base (L2.CX l.prog w) 8 a_Plan p_Plan_read "read" f_Plan_read _ ["line"] (sp_Plan_read K) := ⟨⟨ok_Plan_read F_Plan_read T C_parse_plan C_Plan___init__ C_Reader___init__, b_Plan_read⟩, ⟨rr_Plan, rg_Plan⟩, ⟨sg_Plan_read, ⟨_, sr_Plan_read⟩, k_Plan_read⟩⟩
  have C__law_read : Cal l.prog w K mg base CX0 9 "_law_read" f__law_read _ ["_law_line_here"] (sp__law_read K) := ⟨ok__law_read F__law_read T C_Plan_text C_Plan_read, b__law_read, k__law_read, PySem.W.mg_of X G a__law_read⟩
  have C__law_bent_rows : Cal l.prog w K mg base CX0 3 "_law_bent_rows" f__law_bent_rows _ ["_law_state_here", "_law_rows", "_law_names_here"] (sp__law_bent_rows K) := ⟨ok__law_bent_rows F__law_bent_rows T C__law_draw C__law_pick, b__law_bent_rows, k__law_bent_rows, PySem.W.mg_of X G a__law_bent_rows⟩
  have C__law_bent : Cal l.prog w K mg base CX0 3 "_law_bent" f__law_bent _ ["_law_state_here", "_law_rows", "_law_names_here"] (sp__law_bent K) := ⟨ok__law_bent F__law_bent T C__law_parts C__law_draw C__law_pick C__law_strange, b__law_bent, k__law_bent, PySem.W.mg_of X G a__law_bent⟩
  exact ok_law F_law T C__law_state C__law_names C__law_wild_steps C__law_mixed C__law_text C__law_parts C__law_due C__law_same C__law_some C__law_bent_rows C__law_bent C__law_line C__law_read C__law_draw C_Plan___init__ C_Plan_text
theorem walk {l : PySem.W.OpenLaw} {q : Program} {loose : List Str} {XP : (Str → Option Value) → Heap → Prop} {YP : World → Heap → Prop} {d : DefRec} {K : Params → PySem.W.Frag} (hn : l.most = some 63) (hdf : d.params.defaults = [])
    (hY : ∀ (w : World) (h : Heap), YP w h → (K w.params).In h)
    (F : ∀ (w : World) (mg : Str → Option Value) (fa : Addr) (h : Heap), (K w.params).In h → h.Ns mainGlobals mg → mg d.name = some (.ref fa) →
      ∃ fd : FuncData, (∀ (s : Shared) (u : Value), BindsTo s fd ⟨[u], []⟩ [("_law_script", u)]) ∧ ∀ base : Heap, (K w.params).In base → base.Ns mainGlobals mg → FnOk l.prog w (K w.params) mg base CX0 60 fa fd ["_law_script"] (spLaw (K w.params))) :
    PySem.W.WalkO q loose XP YP l.row.toRowW d [] (fun f vs => PySem.call f vs) :=
  L2.walk_of (n := 63) (k := 60) (x := "_law_script") (CX := fun _ => CX0) (sp := fun w => spLaw (K w.params)) hn (by decide) hdf ⟨rfl, by decide, by decide⟩ hY F (fun _ _ a ns hl _ hS => ⟨a, ns, rfl, hS, hl, fun _ => rfl⟩) fun _ _ _ _ _ z => z
end K31
open PySem PySem.W PyProof.Rows
set_option maxRecDepth 100000 in
set_option maxHeartbeats 0 in
theorem PySem.Challenge.cw_elseput_k31_plan_text_and_read_holds : PySem.Challenge.rw_elseput_k31_plan_text_and_read.Holds := by
  w_on; o_law; k_head; (case hw => w_witness2)
  k_fill
  refine K31.walk (l := PySem.Challenge.rw_elseput_k31_plan_text_and_read) rfl rfl (fun w h Y => PySem.W.kIn_of Y) ?F
  case F =>
    intro w mg fa h KX G hmg
    refine' K31.all_mk KX G hmg ?g_Reader ?pg_Reader ?hx_Reader ?po_Reader ?st_Reader ?rr_Reader ?rg_Reader ?mi_Reader ?ko_Reader ?sf_Reader ?na_Reader__at ?na_Reader__end ?na_Reader__number ?na_Reader__parts ?g_Plan ?pg_Plan ?hx_Plan ?po_Plan ?st_Plan ?rr_Plan ?rg_Plan ?mi_Plan ?ko_Plan ?sf_Plan ?na_Plan_kept ?na_Plan_locked ?na_Plan_steps ?a_is_name ?l_is_name ?c_is_name ?k_is_name ?a_run_end ?l_run_end ?c_run_end ?k_run_end ?a_token_end ?l_token_end ?c_token_end ?k_token_end ?a_split_line ?l_split_line ?c_split_line ?k_split_line ?a_check_name ?l_check_name ?c_check_name ?k_check_name ?a_looked_at ?l_looked_at ?c_looked_at ?k_looked_at ?a_step_fits ?l_step_fits ?c_step_fits ?k_step_fits ?a_steps_fit ?l_steps_fit ?c_steps_fit ?k_steps_fit ?a_keys_fit ?l_keys_fit ?c_keys_fit ?k_keys_fit ?fa_Reader_at_end ?fn_Reader_at_end ?l_Reader_at_end ?c_Reader_at_end ?k_Reader_at_end ?fa_Reader_ahead ?fn_Reader_ahead ?l_Reader_ahead ?c_Reader_ahead ?k_Reader_ahead ?fa_Reader__refuse ?fn_Reader__refuse ?l_Reader__refuse ?c_Reader__refuse ?k_Reader__refuse ?fa_Reader__take_if ?fn_Reader__take_if ?l_Reader__take_if ?c_Reader__take_if ?k_Reader__take_if ?fa_Reader_take_one ?fn_Reader_take_one ?l_Reader_take_one ?c_Reader_take_one ?k_Reader_take_one ?fa_Reader_take_name ?fn_Reader_take_name ?l_Reader_take_name ?c_Reader_take_name ?k_Reader_take_name ?a_parse_step ?l_parse_step ?c_parse_step ?k_parse_step ?a_parse_keys ?l_parse_keys ?c_parse_keys ?k_parse_keys ?fa_Reader_skip ?fn_Reader_skip ?l_Reader_skip ?c_Reader_skip ?k_Reader_skip ?fa_Reader_take_end ?fn_Reader_take_end ?l_Reader_take_end ?c_Reader_take_end ?k_Reader_take_end ?a_parse_plan ?l_parse_plan ?c_parse_plan ?k_parse_plan ?a__law_state ?l__law_state ?c__law_state ?k__law_state ?a__law_draw ?l__law_draw ?c__law_draw ?k__law_draw ?a__law_pick ?l__law_pick ?c__law_pick ?k__law_pick ?a__law_mixed ?l__law_mixed ?c__law_mixed ?k__law_mixed ?a__law_names ?l__law_names ?c__law_names ?k__law_names ?a__law_is_int ?l__law_is_int ?c__law_is_int ?k__law_is_int ?a__law_same ?l__law_same ?c__law_same ?k__law_same ?a__law_wild_steps ?l__law_wild_steps ?c__law_wild_steps ?k__law_wild_steps ?a__law_some ?l__law_some ?c__law_some ?k__law_some ?a__law_text ?l__law_text ?c__law_text ?k__law_text ?a__law_parts ?l__law_parts ?c__law_parts ?k__law_parts ?a__law_line ?l__law_line ?c__law_line ?k__law_line ?a__law_strange ?l__law_strange ?c__law_strange ?k__law_strange ?a__law_misfit ?l__law_misfit ?c__law_misfit ?k__law_misfit ?a__law_plan_of ?l__law_plan_of ?c__law_plan_of ?k__law_plan_of ?a__law_is_plan ?l__law_is_plan ?c__law_is_plan ?k__law_is_plan ?a__law_due ?l__law_due ?c__law_due ?k__law_due ?fa_Plan_text ?fn_Plan_text ?l_Plan_text ?c_Plan_text ?k_Plan_text ?fa_Plan___init__ ?fn_Plan___init__ ?l_Plan___init__ ?ek1_Plan___init__ ?el_1_Plan___init__ ?v_e1_Plan___init__ ?ek2_Plan___init__ ?el_2_Plan___init__ ?v_e2_Plan___init__ ?c_Plan___init__ ?k_Plan___init__ ?fa_Reader___init__ ?fn_Reader___init__ ?l_Reader___init__ ?ld_Reader___init__ ?v_d_Reader___init__ ?c_Reader___init__ ?k_Reader___init__ ?sg_Plan_read ?sr_Plan_read ?l_Plan_read ?c_Plan_read ?k_Plan_read ?a__law_read ?l__law_read ?c__law_read ?k__law_read ?a__law_bent_rows ?l__law_bent_rows ?c__law_bent_rows ?k__law_bent_rows ?a__law_bent ?l__law_bent ?c__law_bent ?k__law_bent ?a_law ?l_law ?c_law ?k_law ?z_ValueError ?z_all ?z_bool ?z_dict ?z_int ?z_isinstance ?z_len ?z_list ?z_range ?z_set ?z_staticmethod ?z_str ?z_super ?z_tuple ?g_DIGITS ?g_LETTERS ?g_LONGEST_NAME ?g_DEEDS ?l_DEEDS ?v_DEEDS ?g_MARKS ?l_MARKS ?v_MARKS ?g_RESERVED ?l_RESERVED ?v_RESERVED ?g_SIGNS ?l_SIGNS ?v_SIGNS ?g_BadName ?g_BadPlan ?g_BadText ?g_ElseputError ?st_any ?htop ?xc_BadName ?ref_BadName ?sa_BadName ?eb_BadName ?ty_BadName ?kC_BadName ?iC_BadName ?tI_BadName ?sup_BadName ?sv_BadName ?mro_BadName ?no0_BadName ?ga_BadName ?gg_BadName ?hd_BadName ?hcl_BadName ?hn_BadName ?ht_BadName ?hm_BadName ?lf_BadName ?cd_BadName ?lc_BadName ?v2_BadName ?fe_BadName ?lcc_BadName ?hD_BadName ?xc_BadText ?ref_BadText ?sa_BadText ?eb_BadText ?ty_BadText ?kC_BadText ?iC_BadText ?tI_BadText ?sup_BadText ?sv_BadText ?mro_BadText ?no0_BadText ?no1_BadText ?ga_BadText ?gg_BadText ?hd_BadText ?hcl_BadText ?hn_BadText ?ht_BadText ?hm_BadText ?lf_BadText ?cd_BadText ?lc_BadText ?v2_BadText ?fe_BadText ?lcc_BadText ?hD_BadText ?xc_BadPlan ?ref_BadPlan ?sa_BadPlan ?eb_BadPlan ?ty_BadPlan ?kC_BadPlan ?iC_BadPlan ?tI_BadPlan ?sup_BadPlan ?sv_BadPlan ?mro_BadPlan ?ga_BadPlan ?gg_BadPlan ?hd_BadPlan ?hcl_BadPlan ?hn_BadPlan ?ht_BadPlan ?hm_BadPlan ?lf_BadPlan ?cd_BadPlan ?lc_BadPlan ?v2_BadPlan ?fe_BadPlan ?lcc_BadPlan ?hD_BadPlan ?mb_ElseputError ?md_ElseputError ?mt_ElseputError ?ms_BadName_ElseputError ?ms_BadPlan_ElseputError ?ms_BadText_ElseputError ?kit_BadName_BadText ?kit_BadName_BadPlan ?kit_BadName_ValueError ?kit_BadPlan_BadText ?kit_BadPlan_BadPlan ?kit_BadPlan_ValueError ?kit_BadText_BadText ?kit_BadText_BadPlan ?kit_BadText_ValueError
    (case g_Reader => k_is)
    (case pg_Reader => k_is)
    (case hx_Reader => k_is)
    (case po_Reader => k_is)
    (case st_Reader => k_is)
    (case rr_Reader => k_is)
    (case rg_Reader => k_is)
    (case mi_Reader => k_is)
    (case ko_Reader => k_is)
    (case sf_Reader => k_is)
    (case na_Reader__at => k_is)
    (case na_Reader__end => k_is)
    (case na_Reader__number => k_is)
    (case na_Reader__parts => k_is)
    (case g_Plan => k_is)
    (case pg_Plan => k_is)
    (case hx_Plan => k_is)
    (case po_Plan => k_is)
    (case st_Plan => k_is)
    (case rr_Plan => k_is)
    (case rg_Plan => k_is)
    (case mi_Plan => k_is)
    (case ko_Plan => k_is)
    (case sf_Plan => k_is)
    (case na_Plan_kept => k_is)
    (case na_Plan_locked => k_is)
    (case na_Plan_steps => k_is)
    (case a_is_name => k_is)
    (case l_is_name => k_is)
    (case c_is_name => k_is)
    (case k_is_name => k_is)
    (case a_run_end => k_is)
    (case l_run_end => k_is)
    (case c_run_end => k_is)
    (case k_run_end => k_is)
    (case a_token_end => k_is)
    (case l_token_end => k_is)
    (case c_token_end => k_is)
    (case k_token_end => k_is)
    (case a_split_line => k_is)
    (case l_split_line => k_is)
    (case c_split_line => k_is)
    (case k_split_line => k_is)
    (case a_check_name => k_is)
    (case l_check_name => k_is)
    (case c_check_name => k_is)
    (case k_check_name => k_is)
    (case a_looked_at => k_is)
    (case l_looked_at => k_is)
    (case c_looked_at => k_is)
    (case k_looked_at => k_is)
    (case a_step_fits => k_is)
    (case l_step_fits => k_is)
    (case c_step_fits => k_is)
    (case k_step_fits => k_is)
    (case a_steps_fit => k_is)
    (case l_steps_fit => k_is)
    (case c_steps_fit => k_is)
    (case k_steps_fit => k_is)
    (case a_keys_fit => k_is)
    (case l_keys_fit => k_is)
    (case c_keys_fit => k_is)
    (case k_keys_fit => k_is)
    (case fa_Reader_at_end => k_is)
    (case fn_Reader_at_end => k_is)
    (case l_Reader_at_end => k_is)
    (case c_Reader_at_end => k_is)
    (case k_Reader_at_end => k_is)
    (case fa_Reader_ahead => k_is)
    (case fn_Reader_ahead => k_is)
    (case l_Reader_ahead => k_is)
    (case c_Reader_ahead => k_is)
    (case k_Reader_ahead => k_is)
    (case fa_Reader__refuse => k_is)
    (case fn_Reader__refuse => k_is)
    (case l_Reader__refuse => k_is)
    (case c_Reader__refuse => k_is)
    (case k_Reader__refuse => k_is)
    (case fa_Reader__take_if => k_is)
    (case fn_Reader__take_if => k_is)
    (case l_Reader__take_if => k_is)
    (case c_Reader__take_if => k_is)
    (case k_Reader__take_if => k_is)
    (case fa_Reader_take_one => k_is)
    (case fn_Reader_take_one => k_is)
    (case l_Reader_take_one => k_is)
    (case c_Reader_take_one => k_is)
    (case k_Reader_take_one => k_is)
    (case fa_Reader_take_name => k_is)
    (case fn_Reader_take_name => k_is)
    (case l_Reader_take_name => k_is)
    (case c_Reader_take_name => k_is)
    (case k_Reader_take_name => k_is)
    (case a_parse_step => k_is)
    (case l_parse_step => k_is)
    (case c_parse_step => k_is)
    (case k_parse_step => k_is)
    (case a_parse_keys => k_is)
    (case l_parse_keys => k_is)
    (case c_parse_keys => k_is)
    (case k_parse_keys => k_is)
    (case fa_Reader_skip => k_is)
    (case fn_Reader_skip => k_is)
    (case l_Reader_skip => k_is)
    (case c_Reader_skip => k_is)
    (case k_Reader_skip => k_is)
    (case fa_Reader_take_end => k_is)
    (case fn_Reader_take_end => k_is)
    (case l_Reader_take_end => k_is)
    (case c_Reader_take_end => k_is)
    (case k_Reader_take_end => k_is)
    (case a_parse_plan => k_is)
    (case l_parse_plan => k_is)
    (case c_parse_plan => k_is)
    (case k_parse_plan => k_is)
    (case a__law_state => k_is)
    (case l__law_state => k_is)
    (case c__law_state => k_is)
    (case k__law_state => k_is)
    (case a__law_draw => k_is)
    (case l__law_draw => k_is)
    (case c__law_draw => k_is)
    (case k__law_draw => k_is)
    (case a__law_pick => k_is)
    (case l__law_pick => k_is)
    (case c__law_pick => k_is)
    (case k__law_pick => k_is)
    (case a__law_mixed => k_is)
    (case l__law_mixed => k_is)
    (case c__law_mixed => k_is)
    (case k__law_mixed => k_is)
    (case a__law_names => k_is)
    (case l__law_names => k_is)
    (case c__law_names => k_is)
    (case k__law_names => k_is)
    (case a__law_is_int => k_is)
    (case l__law_is_int => k_is)
    (case c__law_is_int => k_is)
    (case k__law_is_int => k_is)
    (case a__law_same => k_is)
    (case l__law_same => k_is)
    (case c__law_same => k_is)
    (case k__law_same => k_is)
    (case a__law_wild_steps => k_is)
    (case l__law_wild_steps => k_is)
    (case c__law_wild_steps => k_is)
    (case k__law_wild_steps => k_is)
    (case a__law_some => k_is)
    (case l__law_some => k_is)
    (case c__law_some => k_is)
    (case k__law_some => k_is)
    (case a__law_text => k_is)
    (case l__law_text => k_is)
    (case c__law_text => k_is)
    (case k__law_text => k_is)
    (case a__law_parts => k_is)
    (case l__law_parts => k_is)
    (case c__law_parts => k_is)
    (case k__law_parts => k_is)
    (case a__law_line => k_is)
    (case l__law_line => k_is)
    (case c__law_line => k_is)
    (case k__law_line => k_is)
    (case a__law_strange => k_is)
    (case l__law_strange => k_is)
    (case c__law_strange => k_is)
    (case k__law_strange => k_is)
    (case a__law_misfit => k_is)
    (case l__law_misfit => k_is)
    (case c__law_misfit => k_is)
    (case k__law_misfit => k_is)
    (case a__law_plan_of => k_is)
    (case l__law_plan_of => k_is)
    (case c__law_plan_of => k_is)
    (case k__law_plan_of => k_is)
    (case a__law_is_plan => k_is)
    (case l__law_is_plan => k_is)
    (case c__law_is_plan => k_is)
    (case k__law_is_plan => k_is)
    (case a__law_due => k_is)
    (case l__law_due => k_is)
    (case c__law_due => k_is)
    (case k__law_due => k_is)
    (case fa_Plan_text => k_is)
    (case fn_Plan_text => k_is)
    (case l_Plan_text => k_is)
    (case c_Plan_text => k_is)
    (case k_Plan_text => k_is)
    (case fa_Plan___init__ => k_is)
    (case fn_Plan___init__ => k_is)
    (case l_Plan___init__ => k_is)
    (case ek1_Plan___init__ => k_is)
    (case el_1_Plan___init__ => k_is)
    (case v_e1_Plan___init__ => (repeat' first | exact .nil | refine .cons ⟨_, rfl⟩ ?_))
    (case ek2_Plan___init__ => k_is)
    (case el_2_Plan___init__ => k_is)
    (case v_e2_Plan___init__ => (repeat' first | exact .nil | refine .cons ⟨_, rfl⟩ ?_))
    (case c_Plan___init__ => k_is)
    (case k_Plan___init__ => k_is)
    (case fa_Reader___init__ => k_is)
    (case fn_Reader___init__ => k_is)
    (case l_Reader___init__ => k_is)
    (case ld_Reader___init__ => k_is)
    (case v_d_Reader___init__ => (repeat' first | exact .nil | refine .cons ⟨_, rfl⟩ ?_))
    (case c_Reader___init__ => k_is)
    (case k_Reader___init__ => k_is)
    (case sg_Plan_read => k_is)
    (case sr_Plan_read => k_is)
    (case l_Plan_read => k_is)
    (case c_Plan_read => k_is)
    (case k_Plan_read => k_is)
    (case a__law_read => k_is)
    (case l__law_read => k_is)
    (case c__law_read => k_is)
    (case k__law_read => k_is)
    (case a__law_bent_rows => k_is)
    (case l__law_bent_rows => k_is)
    (case c__law_bent_rows => k_is)
    (case k__law_bent_rows => k_is)
    (case a__law_bent => k_is)
    (case l__law_bent => k_is)
    (case c__law_bent => k_is)
    (case k__law_bent => k_is)
    (case a_law => k_is)
    (case l_law => k_is)
    (case c_law => k_is)
    (case k_law => k_is)
    (case z_ValueError => k_is)
    (case z_all => k_is)
    (case z_bool => k_is)
    (case z_dict => k_is)
    (case z_int => k_is)
    (case z_isinstance => k_is)
    (case z_len => k_is)
    (case z_list => k_is)
    (case z_range => k_is)
    (case z_set => k_is)
    (case z_staticmethod => k_is)
    (case z_str => k_is)
    (case z_super => k_is)
    (case z_tuple => k_is)
    (case g_DIGITS => k_is)
    (case g_LETTERS => k_is)
    (case g_LONGEST_NAME => k_is)
    (case g_DEEDS => k_is)
    (case l_DEEDS => k_is)
    (case v_DEEDS => (repeat' first | exact .nil | refine .cons ⟨_, rfl⟩ ?_))
    (case g_MARKS => k_is)
    (case l_MARKS => k_is)
    (case v_MARKS => (repeat' first | exact .nil | refine .cons ⟨_, rfl⟩ ?_))
    (case g_RESERVED => k_is)
    (case l_RESERVED => k_is)
    (case v_RESERVED => (repeat' first | exact .nil | refine .cons ⟨_, rfl⟩ ?_))
    (case g_SIGNS => k_is)
    (case l_SIGNS => k_is)
    (case v_SIGNS => (repeat' first | exact .nil | refine .cons ⟨_, rfl⟩ ?_))
    (case g_BadName => k_is)
    (case g_BadPlan => k_is)
    (case g_BadText => k_is)
    (case g_ElseputError => k_is)
    (case st_any => k_is)
    (case htop => first | rfl | decide +kernel | k_is)
    (case xc_BadName => k_is)
    (case ref_BadName => first | rfl | decide +kernel | k_is)
    (case sa_BadName => k_is)
    (case eb_BadName => k_is)
    (case ty_BadName => k_is)
    (case kC_BadName => k_is)
    (case iC_BadName => k_is)
    (case tI_BadName => k_is)
    (case sup_BadName => ks_is)
    (case sv_BadName => k_is)
    (case mro_BadName => k_is)
    (case no0_BadName => k_is)
    (case ga_BadName => k_is)
    (case gg_BadName => k_is)
    (case hd_BadName => k_is)
    (case hcl_BadName => k_is)
    (case hn_BadName => k_is)
    (case ht_BadName => k_is)
    (case hm_BadName => k_is)
    (case lf_BadName => k_is)
    (case cd_BadName => k_is)
    (case lc_BadName => k_is)
    (case v2_BadName => first | rfl | decide +kernel | k_is)
    (case fe_BadName => first | rfl | decide +kernel | k_is)
    (case lcc_BadName => k_is)
    (case hD_BadName => k_is)
    (case xc_BadText => k_is)
    (case ref_BadText => first | rfl | decide +kernel | k_is)
    (case sa_BadText => k_is)
    (case eb_BadText => k_is)
    (case ty_BadText => k_is)
    (case kC_BadText => k_is)
    (case iC_BadText => k_is)
    (case tI_BadText => k_is)
    (case sup_BadText => ks_is)
    (case sv_BadText => k_is)
    (case mro_BadText => k_is)
    (case no0_BadText => k_is)
    (case no1_BadText => k_is)
    (case ga_BadText => k_is)
    (case gg_BadText => k_is)
    (case hd_BadText => k_is)
    (case hcl_BadText => k_is)
    (case hn_BadText => k_is)
    (case ht_BadText => k_is)
    (case hm_BadText => k_is)
    (case lf_BadText => k_is)
    (case cd_BadText => k_is)
    (case lc_BadText => k_is)
    (case v2_BadText => first | rfl | decide +kernel | k_is)
    (case fe_BadText => first | rfl | decide +kernel | k_is)
    (case lcc_BadText => k_is)
    (case hD_BadText => k_is)
    (case xc_BadPlan => k_is)
    (case ref_BadPlan => first | rfl | decide +kernel | k_is)
    (case sa_BadPlan => k_is)
    (case eb_BadPlan => k_is)
    (case ty_BadPlan => k_is)
    (case kC_BadPlan => k_is)
    (case iC_BadPlan => k_is)
    (case tI_BadPlan => k_is)
    (case sup_BadPlan => ks_is)
    (case sv_BadPlan => k_is)
    (case mro_BadPlan => k_is)
    (case ga_BadPlan => k_is)
    (case gg_BadPlan => k_is)
    (case hd_BadPlan => k_is)
    (case hcl_BadPlan => k_is)
    (case hn_BadPlan => k_is)
    (case ht_BadPlan => k_is)
    (case hm_BadPlan => k_is)
    (case lf_BadPlan => k_is)
    (case cd_BadPlan => k_is)
    (case lc_BadPlan => k_is)
    (case v2_BadPlan => first | rfl | decide +kernel | k_is)
    (case fe_BadPlan => first | rfl | decide +kernel | k_is)
    (case lcc_BadPlan => k_is)
    (case hD_BadPlan => k_is)
    (case mb_ElseputError => k_is)
    (case md_ElseputError => k_is)
    (case mt_ElseputError => k_is)
    (case ms_BadName_ElseputError => k_is)
    (case ms_BadPlan_ElseputError => k_is)
    (case ms_BadText_ElseputError => k_is)
    (case kit_BadName_BadText => kit_is)
    (case kit_BadName_BadPlan => kit_is)
    (case kit_BadName_ValueError => kit_is)
    (case kit_BadPlan_BadText => kit_is)
    (case kit_BadPlan_BadPlan => kit_is)
    (case kit_BadPlan_ValueError => kit_is)
    (case kit_BadText_BadText => kit_is)
    (case kit_BadText_BadPlan => kit_is)
    (case kit_BadText_ValueError => kit_is)
