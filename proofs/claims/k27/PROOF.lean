import PyProof.Rows.All
import Wide.All
import OpenK.AllK
import Wide.FinOn
import HandS.ForMost
import HandS.Wide
import HandS.TupAny
import HandS.IsInst
import HandS.Flow
import HandS.Evl
import HandS.Walk
import HandS.ExcInit
import HandS.Nested
import HandS.FStr
import HandS.TryOnly
import HandS.TryMany
import HandS.ExcIs
import HandS.ExcField
import HandS.WordsExc
import HandS.RaiseMore
import KE.KExcSuper
import KE.KExcIs
import PyProof.StrOps2
import PyProof.Rows.ReprOcc
import PyProof.Rows.StrDigits
import PyProof.Rows.StrJoinMade
import HandS.ClsMeth
import HandS.Star
import HandS.Property
import HandS.New
import HandS.ExcOwn
import HandS.More
import HandS.Dict
import HandS.Small
import KE.KOpsOwn
import OpenK.KMeth
import HandS.Conv
import HandS.Finally
import PyProof.StrLawsRepr
import HandS.Defaults
import HandS.Text
import HandS.IterVal
import KE.KOwnIter
import HandS.Strs
import HandS.Iter
import KE.GoesMore
import HandS.TupSets
import KE.Datum
import HandS.MakeKwOnly
import HandS.SetFor
import HandS.Style
import PySem.Challenge.RW_elseput_k27_rules_of_a_plan
set_option Elab.async false
set_option linter.all false
set_option maxRecDepth 100000
/-! Own words over the hand layer: readings that compute on the values' shapes. -/
namespace El
open PySem PySem.Spec PyProof.Rows L2
section
variable {X : Cx}

theorem wk {e : Expr} {t t' : TE} (h : PE X e t) (i : ∀ σ H Q, t' σ H Q → t σ H Q) : PE X e t' :=
  ⟨fun pins s σ H Q I q => h.run pins s σ H Q I (i σ H Q q)⟩
theorem opwk {f : Value → Value → Sem Value} {r r' : R2} (h : OpR X f r) (i : ∀ x y H Q, r' x y H Q → r x y H Q) : OpR X f r' :=
  fun pins s σ H x y v u Q I rx ry q => h pins s σ H x y v u Q I rx ry (i x y H Q q)
theorem unwk {f : Value → Sem Value} {r r' : V → Hp → VK → Prop} (h : UnR X f r) (i : ∀ x H Q, r' x H Q → r x H Q) : UnR X f r' :=
  fun pins s σ H x v Q I rx q => h pins s σ H x v Q I rx (i x H Q q)
theorem cwk {f : Value} {r r' : List V → Hp → VK → Prop} (h : CallR X f r) (i : ∀ x H Q, r' x H Q → r x H Q) : CallR X f r' :=
  fun pins s σ H x v Q I rx q => h pins s σ H x v Q I rx (i x H Q q)
theorem ixwk {r r' : R2} (h : IxR X r) (i : ∀ x y H Q, r' x y H Q → r x y H Q) : IxR X r' :=
  fun a b pins s σ H x y v u Q I rx ry q => h a b pins s σ H x y v u Q I rx ry (i x y H Q q)
theorem slwk {r r' : V → Option Int → Option Int → Hp → VK → Prop} (h : SlR X r) (i : ∀ x a b H Q, r' x a b H Q → r x a b H Q) : SlR X r' :=
  fun pins s σ H x v vl vu lo hi sl Q I rx hs pl pu q => h pins s σ H x v vl vu lo hi sl Q I rx hs pl pu (i x lo hi H Q q)

/-! ### a name in its slot -/
def tV (i : Nat) : TE := fun σ H Q => match σ[i]? with | some (some v) => Q v H | _ => False
theorem v_ (i : Nat) {x : Str} {pos : Pos} (hN : X.N[i]? = some x := by rfl) (hv : Vis X.env.scope x := by first | exact Or.inl rfl | exact Or.inr (Or.inl rfl) | exact Or.inr (Or.inr rfl)) (hd : (x == ("__debug__" : Str)) = false := by decide)
    (hcd : (x == ("__classdict__" : Str)) = false := by decide) : PE X (.Name x pos) (tV i) :=
  wk (pv i hN hv hd hcd) fun σ H Q q => by
    unfold tV at q
    split at q
    · rename_i v e; exact ⟨v, e, q⟩
    · exact q.elim

/-! ### operators -/
def addM (K : PySem.W.Frag) : R2 := fun x y H Q => match x, y with
  | .int i, .int j => Q (.int (i + j)) H
  | .str i, .str j => i.length + j.length ≤ sizeLine ∧ Q (.str (i ++ j)) H
  | .ref a, .ref b => (∃ xs zs, H a = some (.lst xs) ∧ H b = some (.lst zs) ∧ xs.length + zs.length ≤ sizeLine ∧ ∀ p, H p = none → Q (.ref p) (upd H p (.lst (xs ++ zs)))) ∨ rCatT K (.ref a) (.ref b) H Q
  | _, _ => False
theorem op_addM : OpR X (binaryOp .Add) (addM X.K) := opwk (OpR.or op_add (OpR.or op_add_str (OpR.or op_cat op_catT))) fun x y H Q q => by
  unfold addM at q
  split at q
  · exact .inl ⟨_, _, rfl, rfl, q⟩
  · exact .inr (.inl ⟨_, _, rfl, rfl, q⟩)
  · rcases q with ⟨xs, zs, h1, h2, h3, h4⟩ | q
    · exact .inr (.inr (.inl ⟨_, _, xs, zs, rfl, rfl, h1, h2, h3, h4⟩))
    · exact .inr (.inr (.inr q))
  · exact q.elim
def subM : R2 := fun x y H Q => match x, y with
  | .int i, .int j => Q (.int (i - j)) H
  | _, _ => False
theorem op_subM : OpR X (binaryOp .Sub) subM := opwk op_sub fun x y H Q q => by
  unfold subM at q
  split at q
  · exact ⟨_, _, rfl, rfl, q⟩
  · exact q.elim
def mulM : R2 := fun x y H Q => match x, y with
  | .int i, .int j => (CMul i j ∨ CMulW i j) ∧ Q (.int (i * j)) H
  | .ref l, .int k => ∃ xs, H l = some (.lst xs) ∧ (-(2 ^ 63) ≤ k ∧ k < 2 ^ 63) ∧ xs.length * k.toNat ≤ sizeLine ∧ ∀ p, H p = none → Q (.ref p) (upd H p (.lst (List.replicate k.toNat xs).flatten))
  | _, _ => False
theorem op_mulM : OpR X (binaryOp .Mult) mulM := opwk (OpR.or op_mul (OpR.or op_mulW op_rep)) fun x y H Q q => by
  unfold mulM at q
  split at q
  · obtain ⟨h | h, q⟩ := q
    · exact .inl ⟨_, _, rfl, rfl, h, q⟩
    · exact .inr (.inl ⟨_, _, rfl, rfl, h, q⟩)
  · obtain ⟨xs, h1, h2, h3, h4⟩ := q
    exact .inr (.inr ⟨_, _, xs, rfl, rfl, h1, h2.1, h2.2, h3, h4⟩)
  · exact q.elim
def divM : R2 := fun x y H Q => match x, y with
  | .int i, .int j => (CDiv i j ∨ CDivW i j) ∧ Q (.int (i / j)) H
  | _, _ => False
theorem op_divM : OpR X (binaryOp .FloorDiv) divM := opwk (OpR.or op_fdiv op_fdivW) fun x y H Q q => by
  unfold divM at q
  split at q
  · obtain ⟨h | h, q⟩ := q
    · exact .inl ⟨_, _, rfl, rfl, h, q⟩
    · exact .inr ⟨_, _, rfl, rfl, h, q⟩
  · exact q.elim
def modM : R2 := fun x y H Q => match x, y with
  | .int i, .int j => 0 < j ∧ Q (.int (i % j)) H
  | _, _ => False
theorem op_modM : OpR X (binaryOp .Mod) modM := opwk op_mod fun x y H Q q => by
  unfold modM at q
  split at q
  · exact ⟨_, _, rfl, rfl, q.1, q.2⟩
  · exact q.elim
def powM : R2 := fun x y H Q => match x, y with
  | .int i, .int j => CPow i j ∧ Q (.int (i ^ j.toNat)) H
  | _, _ => False
theorem op_powM : OpR X (binaryOp .Pow) powM := opwk op_pow fun x y H Q q => by
  unfold powM at q
  split at q
  · exact ⟨_, _, rfl, rfl, q.1, q.2⟩
  · exact q.elim
def negM : V → Hp → VK → Prop := fun x H Q => match x with
  | .int i => Q (.int (-i)) H
  | _ => False
theorem un_negM : UnR X (unaryOp .USub) negM := unwk un_neg fun x H Q q => by
  unfold negM at q
  split at q
  · exact ⟨_, rfl, q⟩
  · exact q.elim

/-! ### comparisons -/
def cmpM (f : Int → Int → Bool) : R2 := fun x y H Q => match x, y with
  | .int i, .int j => Q (.bl (f i j)) H
  | _, _ => False
theorem cmpwk {f : Int → Int → Bool} {g : Value → Value → Sem Value} (h : OpR X g (rI0 fun i j => .bl (f i j))) : OpR X g (cmpM f) := opwk h fun x y H Q q => by
  unfold cmpM at q
  split at q
  · exact ⟨_, _, rfl, rfl, q⟩
  · exact q.elim
theorem op_ltM : OpR X (compareOp .Lt) (cmpM fun i j => decide (i < j)) := cmpwk op_lt
theorem op_leM : OpR X (compareOp .LtE) (cmpM fun i j => decide (i ≤ j)) := cmpwk op_le
theorem op_gtM : OpR X (compareOp .Gt) (cmpM fun i j => decide (j < i)) := cmpwk op_gt
theorem op_geM : OpR X (compareOp .GtE) (cmpM fun i j => decide (j ≤ i)) := cmpwk op_ge
/-- ==: of plain values by the values; else of data -/
def eqM (K : PySem.W.Frag) : R2 := fun x y H Q => match x, y with
  | .int i, .int j => Q (.bl (decide (i = j))) H
  | .str i, .str j => Q (.bl (decide (i = j))) H
  | .bl i, .bl j => Q (.bl (decide (i = j))) H
  | .non, .non => Q (.bl true) H
  | .non, .int _ => Q (.bl false) H
  | .int _, .non => Q (.bl false) H
  | .non, .str _ => Q (.bl false) H
  | .str _, .non => Q (.bl false) H
  | .non, .bl _ => Q (.bl false) H
  | .bl _, .non => Q (.bl false) H
  | .int _, .str _ => Q (.bl false) H
  | .str _, .int _ => Q (.bl false) H
  | .bl _, .str _ => Q (.bl false) H
  | .str _, .bl _ => Q (.bl false) H
  | x, y => rEqD K x y H Q
theorem op_eqM (hu : X.A.units + 64 < cLine) : OpR X (compareOp .Eq) (eqM X.K) := opwk (OpR.or op_eq (op_eqD hu)) fun x y H Q q => by
  unfold eqM at q
  split at q
  all_goals first
    | exact .inl ⟨rfl, by simpa using q⟩
    | exact .inr q
def neM (K : PySem.W.Frag) : R2 := fun x y H Q => match x, y with
  | .int i, .int j => Q (.bl (!decide (i = j))) H
  | .str i, .str j => Q (.bl (!decide (i = j))) H
  | .bl i, .bl j => Q (.bl (!decide (i = j))) H
  | .non, .non => Q (.bl false) H
  | .non, .int _ => Q (.bl true) H
  | .int _, .non => Q (.bl true) H
  | .non, .str _ => Q (.bl true) H
  | .str _, .non => Q (.bl true) H
  | .non, .bl _ => Q (.bl true) H
  | .bl _, .non => Q (.bl true) H
  | .int _, .str _ => Q (.bl true) H
  | .str _, .int _ => Q (.bl true) H
  | .bl _, .str _ => Q (.bl true) H
  | .str _, .bl _ => Q (.bl true) H
  | x, y => rNeD K x y H Q
theorem op_neM (hu : X.A.units + 64 < cLine) : OpR X (compareOp .NotEq) (neM X.K) := opwk (OpR.or op_ne (op_neD hu)) fun x y H Q q => by
  unfold neM at q
  split at q
  all_goals first
    | exact .inl ⟨rfl, by simpa using q⟩
    | exact .inr q
/-- is, is not: None, True, False -/
def isV (x y : V) : Bool := match x, y with
  | .non, .non => true
  | .bl a, .bl b => a == b
  | _, _ => false
def litV (y : V) : Bool := match y with | .non => true | .bl _ => true | _ => false
def isM : R2 := fun x y H Q => match litV y with | true => Q (.bl (isV x y)) H | false => False
def notM : R2 := fun x y H Q => match litV y with | true => Q (.bl (!isV x y)) H | false => False
theorem lit_cases {y : V} (h : litV y = true) : y = .non ∨ ∃ b, y = .bl b := by
  cases y with
  | non => exact .inl rfl
  | bl b => exact .inr ⟨b, rfl⟩
  | _ => exact absurd (show false = true from h) (by decide)
theorem is_other {A : Around} {E : Value → Shared → Prop} {M : Model} {x : V} {v : Value} {b : Bool} {s : Shared} {Q : Value → Shared → Prop} (rx : RelV x v) (h : Q (.bool (isV x (.bl b))) s) : wpAny M A (compareOp .Is v (.bool b)) Q E s := by
  cases x with
  | bl a =>
    cases rx
    by_cases e : a = b
    · subst e; exact wpAny_is_self rfl (by simpa [isV] using h)
    · exact wpAny_is_other rfl (fun z => e (Value.bool.inj z)) (by rw [show isV (.bl a) (.bl b) = false from beq_eq_false_iff_ne.mpr e] at h; exact h)
  | non => cases rx; exact wpAny_is_other rfl (by intro z; cases z) h
  | int i => obtain ⟨t, rfl⟩ := rx; exact wpAny_is_other rfl (by intro z; cases z) h
  | str i => obtain ⟨t, rfl⟩ := rx; exact wpAny_is_other rfl (by intro z; cases z) h
  | byt i => obtain ⟨t, rfl⟩ := rx; exact wpAny_is_other rfl (by intro z; cases z) h
  | flt i => obtain ⟨t, rfl⟩ := rx; exact wpAny_is_other rfl (by intro z; cases z) h
  | ref a => cases rx; exact wpAny_is_other rfl (by intro z; cases z) h
  | ty n => cases rx; exact wpAny_is_other rfl (by intro z; cases z) h
theorem isnot_other {A : Around} {E : Value → Shared → Prop} {M : Model} {x : V} {v : Value} {b : Bool} {s : Shared} {Q : Value → Shared → Prop} (rx : RelV x v) (h : Q (.bool (!isV x (.bl b))) s) : wpAny M A (compareOp .IsNot v (.bool b)) Q E s := by
  cases x with
  | bl a =>
    cases rx
    by_cases e : a = b
    · subst e; exact wpAny_isNot_self rfl (by simpa [isV] using h)
    · exact wpAny_isNot_other rfl (fun z => e (Value.bool.inj z)) (by rw [show isV (.bl a) (.bl b) = false from beq_eq_false_iff_ne.mpr e] at h; exact h)
  | non => cases rx; exact wpAny_isNot_other rfl (by intro z; cases z) h
  | int i => obtain ⟨t, rfl⟩ := rx; exact wpAny_isNot_other rfl (by intro z; cases z) h
  | str i => obtain ⟨t, rfl⟩ := rx; exact wpAny_isNot_other rfl (by intro z; cases z) h
  | byt i => obtain ⟨t, rfl⟩ := rx; exact wpAny_isNot_other rfl (by intro z; cases z) h
  | flt i => obtain ⟨t, rfl⟩ := rx; exact wpAny_isNot_other rfl (by intro z; cases z) h
  | ref a => cases rx; exact wpAny_isNot_other rfl (by intro z; cases z) h
  | ty n => cases rx; exact wpAny_isNot_other rfl (by intro z; cases z) h
theorem isV_non (x : V) : isV x .non = decide (x = .non) := by cases x <;> rfl
theorem op_isM : OpR X (compareOp .Is) isM := by
  intro pins s σ H x y v u Q I rx ry q
  unfold isM at q
  split at q
  · rename_i e
    rcases lit_cases e with rfl | ⟨b, rfl⟩
    · exact op_isN pins s σ H x .non v u Q I rx ry ⟨rfl, by rw [← isV_non]; exact q⟩
    · cases ry
      exact is_other rx ⟨.bl _, H, I, rfl, q⟩
  · exact q.elim
theorem op_isNotM : OpR X (compareOp .IsNot) notM := by
  intro pins s σ H x y v u Q I rx ry q
  unfold notM at q
  split at q
  · rename_i e
    rcases lit_cases e with rfl | ⟨b, rfl⟩
    · exact op_notN pins s σ H x .non v u Q I rx ry ⟨rfl, by rw [← isV_non]; exact q⟩
    · cases ry
      exact isnot_other rx ⟨.bl _, H, I, rfl, q⟩
  · exact q.elim
/-- in: a list or a tuple of plain things; a sign in a text -/
def inM (K : PySem.W.Frag) (neg : Bool) : R2 := fun x y H Q => match y with
  | .str z => ∃ c : Nat, x = .str ⟨#[c]⟩ ∧ Q (.bl (if neg then !decide (c ∈ z.cps.toList) else decide (c ∈ z.cps.toList))) H
  | .ref p => ∃ xs, (SqL K H p xs ∨ SqT K H p xs) ∧ flatV x = true ∧ xs.all flatV = true ∧ Q (.bl (if neg then !inV x xs else inV x xs)) H
  | _ => False
theorem op_inM : OpR X (compareOp .In) (inM X.K false) := opwk (OpR.or op_in_sign op_in_seq) fun x y H Q q => by
  unfold inM at q
  split at q
  · obtain ⟨c, e, q⟩ := q
    exact .inl ⟨c, _, e, rfl, q⟩
  · obtain ⟨xs, h1, h2, h3, q⟩ := q
    exact .inr ⟨_, xs, rfl, h1, h2, h3, q⟩
  · exact q.elim
theorem op_notInM : OpR X (compareOp .NotIn) (inM X.K true) := opwk (OpR.or op_notIn_sign op_notIn_seq) fun x y H Q q => by
  unfold inM at q
  split at q
  · obtain ⟨c, e, q⟩ := q
    exact .inl ⟨c, _, e, rfl, q⟩
  · obtain ⟨xs, h1, h2, h3, q⟩ := q
    exact .inr ⟨_, xs, rfl, h1, h2, h3, q⟩
  · exact q.elim

/-! ### tests -/
variable {a b : Expr} {rest : List Expr} {ta tb : TE} {pos : Pos}
def tTs (t : TE) : TT := fun σ H Q => t σ H fun x H' => match x with | .bl k => Q k H' | _ => False
theorem pt_c {op : CmpOp} {r : R2} (ho : OpR X (compareOp op) r) (ha : PE X a ta) (hb : PE X b tb) (hm : behindInMarks op b = false := by first | exact nomark _ | rfl) : PT X (.Compare a [op] [b] pos) (tTs (tOp r ta tb)) := by
  refine ⟨fun pins s σ H Q I h => ?_⟩
  refine wpAny_isTrue_Compare1 (thn (ha.run pins s σ H _ I h) fun v s1 ⟨x, H1, I1, r1, q1⟩ => thn (hb.run pins s1 σ H1 _ I1 q1) fun u s2 ⟨y, H2, I2, r2, q2⟩ =>
    thn (ho pins s2 σ H2 x y v u _ I2 r1 r2 q2) fun c s3 ⟨z, H3, I3, r3, q3⟩ => ?_) hm
  cases z with
  | bl k => cases r3; exact wpAny_truthy_bool ⟨H3, I3, q3⟩
  | _ => exact (show False from q3).elim
theorem pe_c {op : CmpOp} {r : R2} (ho : OpR X (compareOp op) r) (ha : PE X a ta) (hb : PE X b tb) (hm : behindInMarks op b = false := by first | exact nomark _ | rfl) : PE X (.Compare a [op] [b] pos) (tOp r ta tb) := pe_cmpR ho ha hb hm
/-- any value's truth -/
def tTr (K : PySem.W.Frag) (t : TE) : TT := fun σ H Q => t σ H fun x H' => match x with
  | .bl k => Q k H'
  | .non => Q false H'
  | .int i => Q (i != 0) H'
  | .str y => y.length ≤ sizeLine ∧ Q ((y.length : Int) != 0) H'
  | .ref p => (∃ xs, SqL K H' p xs ∧ Q (!xs.isEmpty) H') ∨ (∃ xs, SqT K H' p xs ∧ Q (!xs.isEmpty) H') ∨ ∃ kvs, H' p = some (.dK kvs) ∧ Q (!kvs.isEmpty) H'
  | _ => False
theorem pt_tr (ha : PE X a ta) (he : ∀ whole, isTrue a X.env whole = (do let v ← whole; standAt a.pos; holding [v] (truthy v)) := by intro _; rfl) : PT X a (tTr X.K ta) := by
  refine ⟨fun pins s σ H Q I h => ?_⟩
  refine isTrue_plain (thn (ha.run pins s σ H _ I h) fun v s1 ⟨x, H1, I1, r1, q1⟩ => tru_ok pins s1 σ H1 x v Q I1 r1 ?_) (he _)
  cases x with
  | bl k => exact ⟨k, rfl, q1⟩
  | non => exact ⟨false, rfl, q1⟩
  | int i => exact ⟨_, rfl, q1⟩
  | str y => exact ⟨_, ⟨q1.1, rfl⟩, q1.2⟩
  | ref p =>
    rcases (show (∃ xs, SqL X.K H1 p xs ∧ Q (!xs.isEmpty) H1) ∨ (∃ xs, SqT X.K H1 p xs ∧ Q (!xs.isEmpty) H1) ∨ ∃ kvs, H1 p = some (.dK kvs) ∧ Q (!kvs.isEmpty) H1 from q1) with ⟨xs, h, q⟩ | ⟨xs, h, q⟩ | ⟨xs, h, q⟩
    · exact ⟨_, .inl ⟨xs, h, rfl⟩, q⟩
    · exact ⟨_, .inr (.inl ⟨xs, h, rfl⟩), q⟩
    · exact ⟨_, .inr (.inr ⟨xs, h, rfl⟩), q⟩
  | _ => exact (show False from q1).elim
def tAndM (ta tb : TE) : TE := fun σ H Q => ta σ H fun x H1 => match x with | .bl c => (if c = true then tb σ H1 Q else Q (.bl false) H1) | _ => False
def tOrM (ta tb : TE) : TE := fun σ H Q => ta σ H fun x H1 => match x with | .bl c => (if c = true then Q (.bl true) H1 else tb σ H1 Q) | _ => False
def tNotM (ta : TE) : TE := fun σ H Q => ta σ H fun x H1 => match x with | .bl c => Q (.bl (!c)) H1 | _ => False
theorem pe_andM (ha : PE X a ta) (hb : PE X (.BoolOp .And (b :: rest) pos) tb) : PE X (.BoolOp .And (a :: b :: rest) pos) (tAndM ta tb) := by
  refine ⟨fun pins s σ H Q I h => ?_⟩
  refine BoolOp_and (thn (ha.run pins s σ H _ I h) fun v s1 ⟨x, H1, I1, r1, q1⟩ => ?_)
  cases x with
  | bl c =>
    cases r1
    refine wpAny_truthy_bool ?_
    cases c with
    | true => exact hb.run pins s1 σ H1 Q I1 q1
    | false => exact ⟨.bl false, H1, I1, rfl, q1⟩
  | _ => exact (show False from q1).elim
theorem pe_orM (ha : PE X a ta) (hb : PE X (.BoolOp .Or (b :: rest) pos) tb) : PE X (.BoolOp .Or (a :: b :: rest) pos) (tOrM ta tb) := by
  refine ⟨fun pins s σ H Q I h => ?_⟩
  refine BoolOp_or (thn (ha.run pins s σ H _ I h) fun v s1 ⟨x, H1, I1, r1, q1⟩ => ?_)
  cases x with
  | bl c =>
    cases r1
    refine wpAny_truthy_bool ?_
    cases c with
    | false => exact hb.run pins s1 σ H1 Q I1 q1
    | true => exact ⟨.bl true, H1, I1, rfl, q1⟩
  | _ => exact (show False from q1).elim
theorem pe_notM (ha : PE X a ta) : PE X (.UnaryOp .Not a pos) (tNotM ta) := by
  refine ⟨fun pins s σ H Q I h => ?_⟩
  refine UnaryOp_ (thn (ha.run pins s σ H _ I h) fun v s1 ⟨x, H1, I1, r1, q1⟩ => ?_)
  cases x with
  | bl c => cases r1; exact not_of (wpAny_truthy_bool ⟨.bl (!c), H1, I1, rfl, q1⟩)
  | _ => exact (show False from q1).elim

/-! ### subscripts, slices, calls of built-ins -/
def ixM (K : PySem.W.Frag) : R2 := fun x y H Q => match x, y with
  | .str z, .int i => z.length ≤ sizeLine ∧ ∃ c, atI z.cps.toList i = some c ∧ Q (.str ⟨#[c]⟩) H
  | .ref p, .int i => ∃ xs, (SqL K H p xs ∨ SqT K H p xs) ∧ ∃ v, atI xs i = some v ∧ Q v H
  | _, _ => False
theorem ix_M : IxR X (ixM X.K) := ixwk ix_seq fun x y H Q q => by
  unfold ixM at q
  split at q
  · obtain ⟨h, c, e, q⟩ := q
    exact .inr (.inr ⟨_, _, c, rfl, rfl, h, e, q⟩)
  · obtain ⟨xs, h | h, v, e, q⟩ := q
    · exact .inl ⟨_, xs, _, v, rfl, rfl, h, e, q⟩
    · exact .inr (.inl ⟨_, xs, _, v, rfl, rfl, h, e, q⟩)
  · exact q.elim
theorem e_ix (ha : PE X a ta) (hb : PE X b tb) (hs : PlainIx b := by intro _ _; rfl) : PE X (.Subscript a b pos) (tOp (ixM X.K) ta tb) := pe_ix ix_M ha hb hs
def slM (K : PySem.W.Frag) : V → Option Int → Option Int → Hp → VK → Prop := fun x lo hi H Q => match x with
  | .str z => z.length ≤ sizeLine ∧ Q (.str (cutS z lo hi)) H
  | .ref p => (∃ xs, SqL K H p xs ∧ ∀ q, H q = none → Q (.ref q) (upd H q (.lst (cutV xs lo hi)))) ∨ rSlT K (.ref p) lo hi H Q
  | _ => False
theorem sl_M : SlR X (slM X.K) := slwk (SlR.or sl_str (SlR.or sl_list sl_tup)) fun x lo hi H Q q => by
  unfold slM at q
  split at q
  · exact .inl ⟨_, rfl, q.1, q.2⟩
  · rcases q with ⟨xs, h, q⟩ | q
    · exact .inr (.inl ⟨_, xs, rfl, h, q⟩)
    · exact .inr (.inr q)
  · exact q.elim
def intM : List V → Hp → VK → Prop := fun xs H Q => match xs with
  | [.int i] => Q (.int i) H
  | [.bl k] => Q (.int (if k then 1 else 0)) H
  | [.str a] => ∃ n, PySem.intText? a = some n ∧ a.length ≤ 640 ∧ Q (.int n) H
  | _ => False
theorem call_intM : CallR X (.type "int") intM := cwk (CallR.or call_int1 call_int_str) fun xs H Q q => by
  unfold intM at q
  split at q
  · exact .inl (.inl ⟨_, rfl, q⟩)
  · exact .inl (.inr ⟨_, rfl, q⟩)
  · obtain ⟨n, h1, h2, q⟩ := q
    exact .inr ⟨_, n, rfl, h1, h2, q⟩
  · exact q.elim
def lenM (K : PySem.W.Frag) : List V → Hp → VK → Prop := fun xs H Q => match xs with
  | [.str z] => z.length ≤ sizeLine ∧ Q (.int z.length) H
  | [.ref p] => (∃ xs, (SqL K H p xs ∨ SqT K H p xs) ∧ Q (.int xs.length) H) ∨ ∃ kvs, H p = some (.dK kvs) ∧ Q (.int kvs.length) H
  | _ => False
theorem call_lenM : CallR X (.builtin "len") (lenM X.K) := cwk (CallR.or call_len_str (CallR.or call_len_seq call_lenD)) fun xs H Q q => by
  unfold lenM at q
  split at q
  · exact .inl ⟨_, rfl, q.1, q.2⟩
  · rcases q with ⟨xs, h, q⟩ | ⟨kvs, h, q⟩
    · exact .inr (.inl ⟨_, xs, rfl, h, q⟩)
    · exact .inr (.inr ⟨_, kvs, rfl, h, q⟩)
  · exact q.elim

/-! ### the same, the written part named -/
theorem addK (K : PySem.W.Frag) (h : X.K = K := by rfl) : OpR X (binaryOp .Add) (addM K) := h ▸ op_addM
theorem eqK (K : PySem.W.Frag) (hu : X.A.units + 64 < cLine) (h : X.K = K := by rfl) : OpR X (compareOp .Eq) (eqM K) := h ▸ op_eqM hu
theorem neK (K : PySem.W.Frag) (hu : X.A.units + 64 < cLine) (h : X.K = K := by rfl) : OpR X (compareOp .NotEq) (neM K) := h ▸ op_neM hu
theorem inK (K : PySem.W.Frag) (h : X.K = K := by rfl) : OpR X (compareOp .In) (inM K false) := h ▸ op_inM
theorem notInK (K : PySem.W.Frag) (h : X.K = K := by rfl) : OpR X (compareOp .NotIn) (inM K true) := h ▸ op_notInM
theorem pt_t (K : PySem.W.Frag) (ha : PE X a ta) (he : ∀ whole, isTrue a X.env whole = (do let v ← whole; standAt a.pos; holding [v] (truthy v)) := by intro _; rfl) (h : X.K = K := by rfl) : PT X a (tTr K ta) := h ▸ pt_tr ha he
theorem e_x (K : PySem.W.Frag) (ha : PE X a ta) (hb : PE X b tb) (hs : PlainIx b := by intro _ _; rfl) (h : X.K = K := by rfl) : PE X (.Subscript a b pos) (tOp (ixM K) ta tb) := h ▸ e_ix ha hb hs
theorem slK (K : PySem.W.Frag) (h : X.K = K := by rfl) : SlR X (slM K) := h ▸ sl_M
theorem lenK (K : PySem.W.Frag) (h : X.K = K := by rfl) : CallR X (.builtin "len") (lenM K) := h ▸ call_lenM
theorem listK (K : PySem.W.Frag) (h : X.K = K := by rfl) : CallR X (.type "list") (fun xs H Q => ∃ p ys, xs = [.ref p] ∧ (SqL K H p ys ∨ SqT K H p ys) ∧ ∀ l, H l = none → Q (.ref l) (upd H l (.lst ys))) := h ▸ call_list_of
theorem tupleK (K : PySem.W.Frag) (h : X.K = K := by rfl) : CallR X (.type "tuple") (fun xs H Q => ∃ p ys, xs = [.ref p] ∧ ((SqL K H p ys ∧ ∀ l, H l = none → Q (.ref l) (upd H l (.tup ys))) ∨ (SqT K H p ys ∧ Q (.ref p) H))) := h ▸ call_tuple_of
theorem isiK (K : PySem.W.Frag) (h : X.K = K := by rfl) : CallR X (.builtin "isinstance") (rIsi K) := h ▸ call_isi
theorem allK (K : PySem.W.Frag) (hc : X.calm = true) (h : X.K = K := by rfl) : CallR X (.builtin "all") (rAll K) := h ▸ cr_all hc
theorem anyK (K : PySem.W.Frag) (hc : X.calm = true) (h : X.K = K := by rfl) : CallR X (.builtin "any") (rAny K) := h ▸ cr_any hc
theorem sortedK (K : PySem.W.Frag) (h : X.K = K := by rfl) : CallR X (.builtin "sorted") (rSorted K) := h ▸ cr_sorted
theorem sumK (K : PySem.W.Frag) (hc : X.calm = true) (h : X.K = K := by rfl) : CallR X (.builtin "sum") (rSum K) := h ▸ cr_sum hc

/-! ### calls of own defs -/
structure Cal (P : Program) (w : World) (K : PySem.W.Frag) (mg : Str → Option Value) (base : Heap) (CX : CXT) (k : Nat) (x : Str) (f : Addr) (fd : FuncData) (ps : List Str) (sp : Sp) : Prop where
  G : FnOk P w K mg base CX k f fd ps sp
  b : Binds K fd ps []
  kp : PySem.W.keepIn K (.ref f) = true
  m : mg x = some (.ref f)
end
end El

set_option Elab.async false
set_option linter.all false
set_option maxRecDepth 100000
set_option maxHeartbeats 4000000
/-! Own words: an own exception's first row super().__init__(e), the rest of its __init__ by the layer. -/
namespace El
open PySem PySem.Spec PyProof.Rows L2 NdefX
abbrev supRow (p0 p1 p2 p3 p4 : Pos) (e1 : Expr) : Stmt := .Expr (.Call (.Attribute (.Call (.Name "super" p0) [] [] p1) "__init__" p2) [e1] [] p3) p4
abbrev supNF (name qual : Str) (params : Arguments) (body : List Stmt) (scope : Scope) (cc cda : Addr) : NF := ⟨name, qual, params, body, scope, [("__class__", cc)], cda⟩

theorem inv_unpin {X : Cx} {pins : List (Addr × Obj)} {σ : L2.St} {H : Hp} {s : Shared} (I : Inv X pins σ H s) : Inv X [] σ H s := I.pins_of fun p hp => absurd hp (by simp)

theorem fn_super {P : Program} {w : World} {K : PySem.W.Frag} {mg : Str → Option Value} {base : Heap} {CX : CXT} {k : Nat} {f cc cda D : Addr} {name qual : Str} {params : Arguments} {scope : Scope} {doc pm ct oc ccl cl : Value} {od cdd cld : Option Addr} {osl ccs csl : Array (Option Value)} {vs0 : Array Value} {file : Str} {tf : Tok} {cdD : ClassData}
    {N ps : List Str} {sp : Sp} {e1 : Expr} {rest : List Stmt} {p0 p1 p2 p3 p4 : Pos} {ar : Arg}
    (lk : K.lookup f = some ⟨oc, od, .func (PySem.W.fnX name qual params (supRow p0 p1 p2 p3 p4 e1 :: rest) scope [("__class__", cc)] .none .none doc pm none (.ref cda) ct), osl⟩)
    (hcd : PySem.W.codeIn K (.ref cda) qual = true) (S : NScope N ps ["__class__"] scope)
    (hcode : K.lookup cda = some ⟨ccl, cdd, .fields vs0, ccs⟩) (hvs : vs0[2]? = some (.str file tf)) (hfile : ((P.main.file : Str) == file) = true)
    (hcell : K.lookup cc = some ⟨cl, cld, .cell (some (.ref D)), csl⟩) (hD : PySem.W.clsIn K D = some cdD) (hsuper : mg "super" = none)
    (hop : PySem.W.nsIn K PySem.cStatics "thirdparty.any" = some none)
    (hp : (params.posonlyargs ++ params.args).head? = some ar) (hps : ps[0]? = some ar.arg)
    (hks : scope.names.lookup ("super" : Str) = some .globalImplicit) (htop : (P.main.scope.names.lookup ("super" : Str)).isSome = false)
    (hboot : bootBuiltins "super" = some (.type "super"))
    (len : ∀ vs H Q E, sp vs H Q E → vs.length = ps.length)
    (hbody : ∀ (A : Around) (outer : List Env) (s : Shared) (H : Hp) (vs : List V) (Q : VK) (E : XK), Room k (A.deeper (envF (supNF name qual params (supRow p0 p1 p2 p3 p4 e1 :: rest) scope cc cda) f s.heap.objs.size)) → sp vs H Q E →
      ∃ (a C : Addr) (ta : TA) (t : TS), vs[0]? = some (.ref a) ∧ H a = some (exo a C none) ∧ OexC K C ∧ PySem.W.mroIn K C (.ref D) = some true ∧ PySem.W.ks_superIn K C D "__init__" = some (some (.builtin "ValueError.__init__")) ∧ PySem.W.subIn K (.ref C) (.type "ValueError") = some true ∧
        PA (ncx CX P w K mg base N (supNF name qual params (supRow p0 p1 p2 p3 p4 e1 :: rest) scope cc cda) f A outer s H E) [e1] ta ∧
        PSs (ncx CX P w K mg base N (supNF name qual params (supRow p0 p1 p2 p3 p4 e1 :: rest) scope cc cda) f A outer s H E) rest t ∧
        ta (startF N vs [none]) H fun ws H1 => H1 a = some (exo a C none) ∧ ws.length ≤ 1000 ∧ t { nx := fun _ H' => Q .non H', rt := Q } (startF N vs [none]) H1)
    (hst : ∀ env : Env, starEach [e1] env = (false, eval e1 env) :: starEach [] env) {pl : Env → Sem Bool}
    (he : ∀ env : Env, eval (.Call (.Attribute (.Call (.Name "super" p0) [] [] p1) "__init__" p2) [e1] [] p3) env = (do
      let ov ← attributeBase (.Call (.Name "super" p0) [] [] p1) "__init__" env (eval (.Call (.Name "super" p0) [] [] p1) env)
      standAt p2.atName
      let (f, first) ← holding [ov] (getMethod ov "__init__" (pl env))
      callWith p3 f first (backTo p3 (starEach [e1] env)) []))
    (hsw : ∀ env : Env, swapsWith (.Call (.Attribute (.Call (.Name "super" p0) [] [] p1) "__init__" p2) [e1] [] p3) none p4.line env = pure false) :
    FnOk P w K mg base CX (k + 1) f (PySem.W.fnX name qual params (supRow p0 p1 p2 p3 p4 e1 :: rest) scope [("__class__", cc)] .none .none doc pm none (.ref cda) ct) ps sp := by
  refine ⟨len, fun A outer s H args us vs Q E hr e0 hb r hsp => ?_⟩
  have hl := len _ _ _ _ hsp
  have KX : K.In s.heap := e0.mod.kin.keeps fun b o e => (e0.bs b o e).1
  have lim : s.heap.NoLimit := e0.mod.nolimit.keeps fun b o e => (e0.bs b o e).1
  have hkc : scope.names.lookup ("__class__" : Str) = some .free := S.frk _ (List.mem_singleton.mpr rfl)
  refine PySem.ks_codeAny_call_defAt (fd := PySem.W.fnX name qual params (supRow p0 p1 p2 p3 p4 e1 :: rest) scope [("__class__", cc)] .none .none doc pm none (.ref cda) ct) (body := supRow p0 p1 p2 p3 p4 e1 :: rest) (binds := ps.zip us) hr.depth (KX _ _ lk) rfl lim
    (PySem.W.codeRec_of KX hcd) rfl hb S.nocell (fun ⟨n, _⟩ hy => S.par n (List.of_mem_zip hy).1) (fun h₁ hns kp => ?_) S.co S.gen S.kind
  obtain ⟨a, C, ta, t, hv0, hexo, TC, hmro, hsup, hsubV, hPA, hPS, hq⟩ := hbody A outer s H vs Q E (hr.deeper _) hsp
  have bcc : base.get? cc = some ⟨cl, cld, .cell (some (.ref D)), csl⟩ := e0.mod.kin _ _ hcell
  have CC : CellsAt [(("__class__" : Str), cc)] ["__class__"] [none] s.heap H := by
    refine ⟨rfl, fun y c e => ?_, fun x y c e1 e2 => ?_, fun i y hi => ?_⟩
    · have : c = cc := by
        simp only [List.lookup] at e
        split at e
        · exact (Option.some.inj e).symm
        · cases e
      subst this
      exact ⟨(e0.bs _ _ bcc).2, _, _, KX _ _ hcell, rfl⟩
    · simp only [List.lookup] at e1 e2
      split at e1
      · rename_i h1
        split at e2
        · rename_i h2
          rw [beq_iff_eq] at h1 h2
          rw [h1, h2]
        · cases e2
      · cases e1
    · have : i = 0 ∧ y = "__class__" := by
        cases i with
        | zero => simp at hi; exact ⟨rfl, hi.symm⟩
        | succ i => simp at hi
      obtain ⟨rfl, rfl⟩ := this
      exact ⟨cc, by simp [List.lookup], fun v hv => by simp at hv⟩
  have I : Inv (ncx CX P w K mg base N (supNF name qual params (supRow p0 p1 p2 p3 p4 e1 :: rest) scope cc cda) f A outer s H E) [] (startF N vs [none]) H { s with heap := h₁, toks := s.toks + (ps.zip us).length } :=
    inv_startN (F := supNF name qual params (supRow p0 p1 p2 p3 p4 e1 :: rest) scope cc cda) S hr.hd e0 hl r CC hns kp
  have KX1 : K.In h₁ := fun b o e => kp b o (KX b o e)
  obtain ⟨oD, hD1, hD2⟩ : ∃ oD, h₁.get? D = some oD ∧ oD.data = .cls cdD := by
    unfold PySem.W.clsIn at hD
    split at hD
    · rename_i c d cd' sl ho
      cases hD
      exact ⟨_, KX1 _ _ ho, rfl⟩
    · cases hD
  have ndP : ps.Nodup := by
    have q := S.nd.sublist (List.take_sublist (ps.length + 1) N)
    rw [show N.take (ps.length + 1) = ps ++ [("__class__" : Str)] from S.pre] at q
    exact (List.nodup_append.mp q).1
  obtain ⟨u0, hu0, ru0⟩ := r.get hv0
  obtain rfl : u0 = Value.ref a := ru0
  obtain ⟨t1, hga⟩ := exo_at I.hok hexo
  have hint : interactive (envF (supNF name qual params (supRow p0 p1 p2 p3 p4 e1 :: rest) scope cc cda) f s.heap.objs.size) = false := by
    have hk := S.kind
    unfold interactive
    simp [Env.blockKind, hk]
  refine PySem.ks_wpAt_execs_cons (PySem.ks_wpAt_Expr_any (PySem.ks_wpAt_MethodCall (PySem.ks_wpAt_super_base (ar := ar) hks hkc (by decide +kernel) rfl (KX1 _ _ lk) rfl hp rfl (KX1 _ _ hcode) rfl hvs hfile htop ?_) (he _)) hint (hsw _))
  obtain ⟨mb, hb1, hb2⟩ := e0.mod.blt
  have kb : ∀ b o, base.get? b = some o → h₁.get? b = some o := fun b o e => kp b o (e0.bs b o e).1
  refine PySem.W.ks_loadName_global S.kind hks (Calls.loadGlobal_builtin (e0.mod.glob.keeps kb) hsuper (hb1.keeps kb) ((hb2 _ (by decide)).trans hboot) ⟨rfl, ?_⟩)
  refine wpAny_loadName_free S.kind hkc rfl ⟨_, KX1 _ _ hcell, rfl⟩ ?_
  refine wpAny_loadName_local S.kind (S.par _ (List.mem_of_getElem? hps)) hns (zip_look ndP hps hu0) ?_
  refine PySem.ks_wpAny_isType_cls hD1 hD2 ⟨rfl, ?_⟩
  refine PySem.ks_wpAny_call_super hD1 hD2 hga rfl (fun c e => by cases e) (PySem.W.looks_mroIn KX1 hmro) (fun h2 eso k2 => ?_)
  have I2 : Inv (ncx CX P w K mg base N (supNF name qual params (supRow p0 p1 p2 p3 p4 e1 :: rest) scope cc cda) f A outer s H E) [] (startF N vs [none]) H { s with heap := h2, toks := s.toks + (ps.zip us).length } := I.kept k2
  have KX2 : K.In h2 := fun b o e => k2 b o (KX1 b o e)
  cases hcC : PySem.W.clsIn K C with
  | none => unfold PySem.W.ks_superIn at hsup; rw [hcC] at hsup; cases hsup
  | some cd =>
  unfold PySem.W.ks_superIn at hsup
  rw [hcC] at hsup
  have hga2 := k2 _ _ hga
  have INS : PySem.W.InstAt h2 a { cls := .ref C, dict := none, data := .fields #[.ref t1, .none, .none, .none, .bool false, .none] } C none := ⟨hga2, rfl, rfl, trivial⟩
  have hI : PySem.W.Looks (model P w) h2 (isInstance (.ref a) (.type "ValueError")) true := INS.type.andThen (PySem.W.looks_subIn KX2 hsubV)
  refine PySem.W.kxs_getMethod PySem.W.kxs_ValueError eso (PySem.W.looks_opaque KX2 hop) (l₀ := cd.mro) (fun A Q E s k q => wpAny_bind ((PySem.W.looks_clsIn KX2 hcC) A _ E s k (wpAny_pure q))) rfl KX2 hsup hI (PySem.W.ks_ne KX2 INS hcC) (by decide +kernel) ?_
  have I3 : Inv (ncx CX P w K mg base N (supNF name qual params (supRow p0 p1 p2 p3 p4 e1 :: rest) scope cc cda) f A outer s H E) [] (startF N vs [none]) H { s with heap := h2.push (PySem.W.kxs_mw "ValueError.__init__" a), toks := s.toks + (ps.zip us).length + 1 } := I2.kept fun b o e => Heap.get?_push_of_some _ e
  have hu : (h2.push (PySem.W.kxs_mw "ValueError.__init__" a)).get? h2.objs.size = some (PySem.W.kxs_mw "ValueError.__init__" a) := Heap.get?_push_at rfl rfl
  have hfree : H h2.objs.size = none := I2.hok.fresh (Nat.le_refl _)
  have I4 : Inv (ncx CX P w K mg base N (supNF name qual params (supRow p0 p1 p2 p3 p4 e1 :: rest) scope cc cda) f A outer s H E) [(h2.objs.size, PySem.W.kxs_mw "ValueError.__init__" a)] (startF N vs [none]) H { s with heap := h2.push (PySem.W.kxs_mw "ValueError.__init__" a), toks := s.toks + (ps.zip us).length + 1 } :=
    I3.pins_of fun p hp => by
      obtain rfl := List.mem_singleton.mp hp
      exact ⟨hu, hfree, fun z => absurd I2.lt (by rw [← z]; exact Nat.lt_irrefl _), I2.nofs (Nat.le_refl _), fun v z => by cases z⟩
  show wpAny _ _ (callWith p3 (.ref h2.objs.size) [] (backTo p3 (starEach [e1] _)) []) _ _ _
  rw [hst]
  refine PySem.W.kxs_callWith (i := "ValueError.__init__") (x := a) rfl (Calls.evalArgs_plain ?_)
  have hrun := hPA.run p3 _ _ _ _ _ I4 hq
  rw [hst] at hrun
  refine thn hrun fun us' s4 ⟨ws, H1, I5, r5, hexo1, hws, hq1⟩ => ?_
  have hu5 : s4.heap.get? h2.objs.size = some (PySem.W.kxs_mw "ValueError.__init__" a) := (I5.pin (h2.objs.size, PySem.W.kxs_mw "ValueError.__init__" a) (List.mem_append_right _ (List.mem_singleton.mpr rfl))).1
  refine ⟨hu5, ?_⟩
  obtain ⟨nm, q9, N9, bs, bm, sn, sub, ab, col, dd, k0, k1, k2', k3, k5, hC, hbm⟩ := TC.cls
  obtain ⟨t2, hga5⟩ := exo_at I5.hok hexo1
  have hC5 := I5.kIn _ _ hC
  have hus : us'.length ≤ sizeLine := by
    rw [← Paired.length r5, sizeLine_eq]
    omega
  obtain ⟨h5, g5, d5, tk5, os5⟩ := s4
  show wpAny _ _ (call (.ref h2.objs.size) ([] ++ us')) _ _ _
  rw [List.nil_append]
  refine wpAny_call (codeAny_of_tree ?_)
  show wpAny _ _ (callAny (.ref h2.objs.size) ⟨us', []⟩) _ _ _
  simp only [callAny]
  refine wpAny_bind (wpAny_load hu5 ?_)
  simp only [PySem.W.kxs_mw, show (Value.type "method-wrapper" == Value.type "method" || Value.type "method-wrapper" == Value.type "builtin_function_or_method" || Value.type "method-wrapper" == Value.type "method-wrapper") = true by decide, if_true]
  refine PySem.W.KFB.if_so (by decide) ?_
  refine wpAny_bind (PySem.W.check_bound_init PySem.F.excBase_ValueError.toExcCallFacts hC5 hga5 rfl ?_)
  refine wpAny_bind (wpAny_pure (wpAny_pure ?_))
  refine ⟨plainId_quiet PySem.F.excBase_ValueError.init.plain _, codeAny_builtin PySem.F.excBase_ValueError.initEntry ?_⟩
  refine PySem.W.exc_init_tree (cls := .ref C) (t0 := t2) (dv := none) (c2 := .none) (c3 := .none) (b4 := .bool false) hga5 hus (fun h6 k6 e6 _ => ?_)
  have J := I5.write (t' := tk5) (x := a) (e := a) (o := exo a C none) (by rw [hexo1]; exact True.intro) (.inl rfl) k6 ⟨_, e6⟩ (exo_ok e6)
  have eu : upd H1 a (exo a C none) = H1 := by
    funext b
    by_cases hb : b = a
    · rw [hb, upd_same, hexo1]
    · rw [upd_ne hb]
  rw [eu] at J
  have J0 := inv_unpin J
  refine wpAt_of_wpAny ?_
  refine wpAny_mono (hPS.run [] _ _ H1 _ J0 hq1) (fun fl s' hs => ?_) fun e s' hs => hs
  have fin : ∀ {σ' : L2.St} {H' : Hp} {v : V} {u : Value}, Inv (ncx CX P w K mg base N (supNF name qual params (supRow p0 p1 p2 p3 p4 e1 :: rest) scope cc cda) f A outer s H E) [] σ' H' s' → L2.RelV v u → Q v H' → CE outer P w H s Q u s' :=
    fun {σ' H' v u} J rv q => ⟨v, H', J.os, J.bare, J.base, J.hok, rv, q⟩
  cases fl with
  | ret u =>
    obtain ⟨v, σ', H', J, rv, q⟩ := hs
    exact fin J rv q
  | next =>
    obtain ⟨σ', H', J, q⟩ := hs
    exact fin (v := V.non) (u := Value.none) J rfl q
  | brk =>
    obtain ⟨_, _, _, q⟩ := hs
    exact False.elim q
  | cont =>
    obtain ⟨_, _, _, q⟩ := hs
    exact False.elim q
end El

set_option Elab.async false
set_option linter.all false
set_option maxRecDepth 100000
set_option maxHeartbeats 4000000
/-! Own words: what the written part says of an own exception class, isinstance of what an except clause holds. -/
namespace El
open PySem PySem.Spec PyProof.Rows L2 NdefX
/-- isinstance(e, c), e the exception that the suite holds, with a dict -/
def rIsX (K : PySem.W.Frag) (cls : Value) (d : Option Addr) (a : Addr) : List V → Hp → VK → Prop := fun xs H Q => ∃ (D dd : Addr) (fs : List (Str × V)) (c : V) (cv : Value) (b : Bool), xs = [.ref a, c] ∧ cls = .ref D ∧ d = some dd ∧ H dd = some (.xd fs) ∧ ExcC K D ∧ (∀ u, RelV c u → u = cv) ∧ PySem.W.kitOne K (.ref D) cv = some b ∧ Q (.bl b) H
theorem call_isX {X : Cx} {a : Addr} {oe : Obj} {cls : Value} {d : Option Addr} {pn : List (Addr × Obj)} (hz : Zc cls d oe) (hf : ∃ vs, oe.data = .fields vs) : CallR (X.suite a ((a, oe) :: pn)) (.builtin "isinstance") (rIsX X.K cls d a) := by
  intro pins s σ H xs us Q I r h
  obtain ⟨D, dd, fs, c, cv, b, rfl, rfl, rfl, ea, C, hcv, e, q⟩ := h
  cases r with
  | cons rx rr =>
    cases rr with
    | cons rt rr =>
      cases rr
      cases rx
      have ec := hcv _ rt
      subst ec
      obtain ⟨hget, _⟩ := I.pin (a, oe) (List.mem_append.mpr (.inl List.mem_cons_self))
      obtain ⟨vs, hv⟩ := hf
      have hx : ObjOk X.prog X.w H s.heap dd (.xd fs) := I.hok dd _ ea
      obtain ⟨mA, hns, hr⟩ := hx
      obtain ⟨od, ho, hl⟩ := lookIn_ns hns
      have J : PySem.W.InstAt s.heap a oe D (some od) := ⟨hget, hz.1, by unfold PySem.W.notCls; rw [hv] <;> rfl, by rw [hz.2]; exact ho⟩
      obtain ⟨cdD, hcD, _⟩ := PySem.W.any_some C.hd
      exact PySem.W.kia_one (PySem.W.kitx_exc (by rw [hcD]; rfl) C.hg C.hk C.hs C.ha C.hn C.ht C.hm) I.kIn J e (fun z => nomatch z) fun tk => ⟨.bl b, H, I.kept (t' := tk) fun _ _ z => z, rfl, q⟩
/-- an own exception class with its own __init__ -/
structure ExK (K : PySem.W.Frag) (C fI : Addr) (fields : List Str) : Prop where
  oex : OexC K C
  sup : PySem.W.ks_superIn K C C "__init__" = some (some (.builtin "ValueError.__init__"))
  subV : PySem.W.subIn K (.ref C) (.type "ValueError") = some true
  mro : PySem.W.mroIn K C (.ref C) = some true
  iC : PySem.W.findIn K (.ref C) "__init__" = some (some (.ref fI))
  tI : PySem.W.typeIn K (.ref fI) = some (.type "function")
  no : ∀ f ∈ fields, PySem.W.findIn K (.ref C) f = some none
  xf : XfC K C
  is : ExcC K C
/-- what a suite that catches it must know -/
structure ExV (K : PySem.W.Frag) (C : Addr) (fields : List Str) : Prop where
  no : ∀ f ∈ fields, PySem.W.findIn K (.ref C) f = some none
  xf : XfC K C
  is : ExcC K C
/-- the i-th def of the class body -/
def mthS (s : Stmt) (i : Nat) : Stmt := match s with
  | .ClassDef _ _ _ b _ _ _ _ _ _ _ => b.getD i (.Pass ⟨0, 0, 0, 0⟩)
  | _ => .Pass ⟨0, 0, 0, 0⟩
/-- the same, from what the written part answers -/
theorem exk_mk {K : PySem.W.Frag} {C fI N : Addr} {fields : List Str} {nm q : Str} {bs bm : List Value} {sn : List Str} {sub : List Value} {ab : Bool} {col : Option Bool} {dd : Option Addr} {k0 k1 k2 k3 k5 : Option Value}
    (cls : K.lookup C = some (excClassObj nm q C N bs bm true sn sub ab col dd k0 k1 k2 k3 k5 "ValueError.__new__")) (ref : PySem.HandSPX.refsVE bm = true)
    (sa : PySem.W.findIn K (.ref C) "__setattr__" = some (some (.builtin "object.__setattr__"))) (exC : PySem.W.subIn K (.ref C) (.type "BaseException") = some true) (tyC : PySem.W.typeIn K (.ref C) = some (.type "type")) (kC : PySem.W.keepIn K (.ref C) = true)
    (sup : PySem.W.ks_superIn K C C "__init__" = some (some (.builtin "ValueError.__init__"))) (subV : PySem.W.subIn K (.ref C) (.type "ValueError") = some true) (mro : PySem.W.mroIn K C (.ref C) = some true)
    (iC : PySem.W.findIn K (.ref C) "__init__" = some (some (.ref fI))) (tI : PySem.W.typeIn K (.ref fI) = some (.type "function")) (no : ∀ f ∈ fields, PySem.W.findIn K (.ref C) f = some none)
    (ga : PySem.W.findIn K (.ref C) "__getattribute__" = some (some (.builtin "BaseException.__getattribute__"))) (gg : PySem.W.findIn K (.ref C) "__getattr__" = some none) (hd : PySem.W.hasDictIn K C = true)
    (hcl : PySem.W.findIn K (.ref C) "__class__" = some (some (.builtin "object.__class__"))) (hn : PySem.W.specialIn K (.builtin "object.__class__") "__get__" = some (some (.builtin "getset_descriptor.__get__"))) (ht : PySem.W.takesIn K (.builtin "object.__class__") = some true) (hm : PySem.W.mroIn K C (.type "object") = some true) : ExK K C fI fields :=
  ⟨⟨⟨nm, q, N, bs, bm, sn, sub, ab, col, dd, k0, k1, k2, k3, k5, cls, ref⟩, sa, exC, tyC, kC⟩, sup, subV, mro, iC, tI, no, ⟨ga, gg, exC, hd⟩, ⟨ga, gg, exC, hd, hcl, hn, ht, hm⟩⟩

/-! ### an own exception's __init__, by what it keeps -/
def spE (C : Addr) (ok : List V → Prop) (fs : List V → List (Str × V)) : Sp := fun vs H Q _ => ∃ (a : Addr) (ws : List V), vs = .ref a :: ws ∧ ok ws ∧ H a = some (exo a C none) ∧
  ∀ (dx : Addr) (H' : Hp), H dx = none → dx ≠ a → H' a = some (exo a C (some dx)) → H' dx = some (exd dx (fs ws)) → (∀ b, b ≠ a → b ≠ dx → H' b = H b) → Q .non H'
theorem mk_spE {C : Addr} {ok : List V → Prop} {fs : List V → List (Str × V)} {vs : List V} {H1 : Hp} {Q : XK} (hl : vs.length ≤ 1000) (ho : ok vs) (hq : ∀ d, H1 d = none → Q (.ref C) (some d) (upd H1 d (.xd (fs vs)))) :
    vs.length ≤ 1000 ∧ ∀ a, H1 a = none → spE C ok fs (.ref a :: (vs ++ [])) (upd H1 a (exo a C none))
      (fun v H2 => v = .non ∧ ∃ (d : Addr) (fs : List (Str × V)), H2 a = some (exo a C (some d)) ∧ H2 d = some (exd d fs) ∧ H1 d = none ∧ Q (.ref C) (some d) (upd (del H2 a) d (.xd fs))) (fun _ _ _ => False) := by
  refine ⟨hl, fun a na => ⟨a, vs, by rw [List.append_nil], ho, upd_same, fun dx H' n ne e1 e2 hh => ⟨rfl, dx, fs vs, e1, e2, ?_, ?_⟩⟩⟩
  · rw [upd_ne ne] at n
    exact n
  · have nd : H1 dx = none := by rw [upd_ne ne] at n; exact n
    have e : upd (del H' a) dx (.xd (fs vs)) = upd H1 dx (.xd (fs vs)) := by
      funext b
      by_cases hb : b = dx
      · rw [hb, upd_same, upd_same]
      · rw [upd_ne hb, upd_ne hb]
        by_cases ha : b = a
        · rw [ha, del_same, na]
        · rw [del_ne ha, hh b ha hb, upd_ne ha]
    rw [e]
    exact hq dx nd
/-- the class, its __init__, ready for a raise -/
structure CalE (P : Program) (w : World) (K : PySem.W.Frag) (mg : Str → Option Value) (base : Heap) (k : Nat) (x : Str) (C f : Addr) (fd : FuncData) (ps : List Str) (ok : List V → Prop) (fs : List V → List (Str × V)) (fields : List Str) : Prop where
  G : FnOk P w K mg base CX0 k f fd ps (spE C ok fs)
  b : Binds K fd ps []
  X : ExK K C f fields
  m : mg x = some (.ref C)
/-- one store, the dict being new -/
theorem ost1 {a C : Addr} {H : Hp} {f : Str} {y : V} {Q : Hp → Prop} (ea : H a = some (exo a C none)) (q : ∀ dx H', H dx = none → dx ≠ a → H' a = some (exo a C (some dx)) → H' dx = some (exd dx [(f, y)]) → (∀ b, b ≠ a → b ≠ dx → H' b = H b) → Q H') :
    ∀ dx, H dx = none → dx ≠ a → Q (upd (upd H dx (exd dx [(f, y)])) a (exo a C (some dx))) := fun dx n ne =>
  q dx _ n ne upd_same (by rw [upd_ne ne, upd_same]) fun b h1 h2 => by rw [upd_ne h1, upd_ne h2]
end El

set_option Elab.async false
set_option linter.all false
set_option maxRecDepth 100000
/-! Own words: a text times an int, the text of an int. -/
namespace El
open PySem PySem.Spec PyProof.Rows L2
def repS (z : Str) (k : Int) : Str := if k < 1 then Str.empty else if (k == 1 || z.length == 0) = true then z else ⟨(List.replicate k.toNat z.cps).foldl (· ++ ·) #[]⟩
theorem foldl_cps : ∀ (n : Nat) (a b : Array Nat), ((List.replicate n b).foldl (· ++ ·) a).toList = a.toList ++ (List.replicate n b.toList).flatten
  | 0, a, b => by simp
  | n + 1, a, b => by
    rw [List.replicate_succ, List.foldl_cons, foldl_cps n, Array.toList_append, List.replicate_succ, List.flatten_cons, List.append_assoc]
theorem repS_cps (z : Str) (k : Int) : (repS z k).cps.toList = (List.replicate k.toNat z.cps.toList).flatten := by
  unfold repS
  split
  · rename_i h
    rw [show k.toNat = 0 by omega]
    rfl
  · split
    · rename_i h1 h
      rw [Bool.or_eq_true, beq_iff_eq, beq_iff_eq] at h
      rcases h with h | h
      · subst h
        simp
      · have : z.cps.toList = [] := List.eq_nil_of_length_eq_zero (by rw [Array.length_toList]; exact h)
        rw [this]
        simp
    · rw [foldl_cps]
      rfl
theorem repS1 {c : Nat} {k : Int} : (repS ⟨#[c]⟩ k).cps.toList = List.replicate k.toNat c := by
  rw [repS_cps]
  simp
theorem op_mulS {X : Cx} : OpR X (binaryOp .Mult) (fun x y H Q => ∃ (z : Str) (k : Int), x = .str z ∧ y = .int k ∧ k ≤ 1000 ∧ -1000 ≤ k ∧ z.length ≤ 1000 ∧ Q (.str (repS z k)) H) := by
  intro pins s σ H x y v u Q I rx ry h
  obtain ⟨z, k, rfl, rfl, h1, h2, h3, q⟩ := h
  obtain ⟨t, rfl⟩ := rx
  obtain ⟨t', rfl⟩ := ry
  have e : (2 : Int) ^ 63 = 9223372036854775808 := by decide
  refine PySem.P.mul_str ?_ (fun n1 n2 => ?_) (fun n1 n2 => ?_) ?_
  · rw [e, decide_eq_false (by omega), decide_eq_false (by omega)]
    rfl
  · rw [e]
    have : ((9223372036854775808 : Int) - 1) / 1000 ≤ (9223372036854775808 - 1) / k := by
      refine Int.le_ediv_of_mul_le (by omega) ?_
      have : (9223372036854775808 - 1) / 1000 * k ≤ (9223372036854775808 - 1) / 1000 * 1000 := Int.mul_le_mul_of_nonneg_left h1 (by decide)
      refine Int.le_trans this (by decide)
    have : (1000 : Int) ≤ (9223372036854775808 - 1) / 1000 := by decide
    omega
  · have : z.length * k.toNat ≤ 1000 * 1000 := Nat.mul_le_mul h3 (by omega)
    show decide _ = false
    refine decide_eq_false ?_
    rw [sizeLine_eq]
    omega
  · unfold repS at q
    split
    · rename_i c
      rw [if_pos c] at q
      exact ⟨by decide, .str _, H, I.tok _, ⟨_, rfl⟩, q⟩
    · rename_i c
      rw [if_neg c] at q
      split
      · rename_i c2
        rw [if_pos c2] at q
        exact ⟨.str _, H, I, ⟨_, rfl⟩, q⟩
      · rename_i c2
        rw [if_neg c2] at q
        refine ⟨?_, .str _, H, I.tok _, ⟨_, rfl⟩, q⟩
        have e2 := foldl_cps k.toNat #[] z.cps
        have e3 : ((List.replicate k.toNat z.cps).foldl (· ++ ·) #[]).size = k.toNat * z.length := by
          rw [← Array.length_toList, e2, List.length_append]
          simp
          rfl
        show ((List.replicate k.toNat z.cps).foldl (· ++ ·) #[]).size ≤ sizeLine
        rw [e3, sizeLine_eq]
        have : k.toNat * z.length ≤ 1000 * 1000 := Nat.mul_le_mul (by omega) h3
        omega
/-- times, of texts too -/
def mulSM : R2 := fun x y H Q => match x, y with
  | .str z, .int k => k ≤ 1000 ∧ -1000 ≤ k ∧ z.length ≤ 1000 ∧ Q (.str (repS z k)) H
  | _, _ => mulM x y H Q
theorem op_mulSM {X : Cx} : OpR X (binaryOp .Mult) mulSM := opwk (OpR.or op_mulS op_mulM) fun x y H Q q => by
  unfold mulSM at q
  split at q
  · exact .inl ⟨_, _, rfl, rfl, q⟩
  · exact .inr q
/-- the signs of a number's text -/
theorem int_digits {i : Int} (h : 0 ≤ i) : ∀ c ∈ ((toString i : String) : Str).cps.toList, 48 ≤ c ∧ c ≤ 57 := by
  intro c hm
  by_cases hk : c ≠ 45 ∧ (c < 48 ∨ 57 < c)
  · exact absurd hm (int_text_free' c hk i)
  · by_cases h45 : c = 45
    · exfalso
      subst h45
      obtain ⟨n, rfl⟩ := Int.eq_ofNat_of_zero_le h
      rw [signs_ofString] at hm
      obtain ⟨ch, hc, e⟩ := List.mem_map.mp hm
      have hd : ch.isDigit = true := by
        have : ch ∈ (Nat.repr n).toList := hc
        exact Nat.isDigit_of_mem_toDigits (b := 10) (n := n) (by decide) (by decide) (by simpa [Nat.repr] using this)
      have := digit_range hd
      omega
    · omega
theorem int_text_ne (i : Int) : ((toString i : String) : Str).cps.toList ≠ [] := by
  rw [signs_ofString]
  intro h
  have h := List.map_eq_nil_iff.mp h
  have nn : ∀ n : Nat, (Nat.repr n).toList ≠ [] := fun n e => by
    have : Nat.toDigits 10 n = [] := by simpa [Nat.repr] using e
    exact Nat.toDigits_ne_nil this
  cases i with
  | ofNat n => exact nn n h
  | negSucc n =>
    have : ("-" ++ Nat.repr (n + 1)).toList = [] := h
    simp at this
end El

set_option Elab.async false
set_option linter.all false
set_option maxRecDepth 100000
set_option maxHeartbeats 4000000
/-! Own words: operators of own classes, static methods. -/
namespace El
open PySem PySem.Spec PyProof.Rows L2
theorem cmpBack_of {X : Cx} {pins : List (Addr × Obj)} {σ : L2.St} {Q : VK} {u : Value} {s' : Shared} (h : EP X pins σ Q u s') : PySem.W.CmpBack (EP X pins σ Q) u s' := by
  obtain ⟨v, H', I, r, q⟩ := id h
  cases v with
  | non => cases (show u = Value.none from r); exact h
  | bl b => cases (show u = Value.bool b from r); exact h
  | int i => obtain ⟨t, e⟩ := (show ∃ t, u = Value.int i t from r); subst e; exact h
  | str i => obtain ⟨t, e⟩ := (show ∃ t, u = Value.str i t from r); subst e; exact h
  | byt i => obtain ⟨t, e⟩ := (show ∃ t, u = Value.bytes i t from r); subst e; exact h
  | flt i => obtain ⟨t, e⟩ := (show ∃ t, u = Value.float i t from r); subst e; exact h
  | ref a => cases (show u = Value.ref a from r); exact h
  | ty n => cases (show u = Value.type n from r); exact h
/-- an own class's method for an operator -/
structure OpC (K : PySem.W.Frag) (C f : Addr) (op : Operator) : Prop where
  sf : PySem.W.selfFirst K C = true
  at_ : PySem.W.findIn K (.ref C) (PySem.dunder op.info.2) = some (some (.ref f))
  fn : PySem.W.isFn K (.ref f) = true
/-- .. with a value of the built-in type T on the right -/
structure OpT (K : PySem.W.Frag) (C f : Addr) (op : Operator) (T : String) : Prop where
  c : OpC K C f op
  hr : ∃ rc, PySem.W.findIn K (.ref C) (PySem.dunderR op.info.2) = some rc ∧ (rc = none ∨ ∃ g : Addr, rc = some (.ref g))
  h1 : ∃ fo, PySem.W.findIn K (.type T) (PySem.dunder op.info.2) = some fo
  h2 : ∃ ro, PySem.W.findIn K (.type T) (PySem.dunderR op.info.2) = some ro
  sub : PySem.W.subIn K (.type T) (.ref C) = some false
structure InvC (K : PySem.W.Frag) (C f : Addr) : Prop where
  at_ : PySem.W.findIn K (.ref C) "__invert__" = some (some (.ref f))
  fn : PySem.W.isFn K (.ref f) = true
section
variable {X : Cx} {CX : CXT} {k : Nat} {C f : Addr} {fd : FuncData} {ps : List Str} {sp : Sp} {E : XK} {op : Operator}
/-- a op b, both of the class at C -/
def rOwn (C : Addr) (sp : Sp) (E : XK) : R2 := fun x y H Q => ∃ a b dx fs dy gs, x = .ref a ∧ y = .ref b ∧ H a = some (.ins C dx fs) ∧ H b = some (.ins C dy gs) ∧ sp [.ref a, .ref b] H Q E
theorem op_own (c : OpC X.K C f op) (F : FnOk X.prog X.w X.K X.mg X.base CX k f fd ps sp) (hr : Room k X.A) (hb : Binds X.K fd ps []) (hx : Passes CX X E) : OpR X (binaryOp op) (rOwn C sp E) := by
  intro pins s σ H x y v u Q I rx ry h
  obtain ⟨a, b, dx, fs, dy, gs, rfl, rfl, ea, eb, q⟩ := h
  obtain rfl : v = Value.ref a := rx
  obtain rfl : u = Value.ref b := ry
  obtain ⟨m, fr⟩ := I.fr
  obtain ⟨mA, O, _⟩ := ins_get I.hok ea
  obtain ⟨od, J, _⟩ := O.look
  obtain ⟨mB, O2, _⟩ := ins_get I.hok eb
  obtain ⟨od2, J2, _⟩ := O2.look
  refine PySem.W.binop_K fr I.ok.mod.kin J J2.type c.sf c.at_ c.fn ?_
  refine wpAny_mono (run_fn (us := [.ref a, .ref b]) (vs := [.ref a, .ref b]) (ds := []) (dvs := []) F hr hb .nil hx I (.cons rfl (.cons rfl .nil)) q) (fun u' s' h' => cmpBack_of h') fun _ _ z => z
/-- a op n, n an int -/
def rOwnI (C : Addr) (sp : Sp) (E : XK) : R2 := fun x y H Q => ∃ a dx fs i, x = .ref a ∧ y = .int i ∧ H a = some (.ins C dx fs) ∧ sp [.ref a, .int i] H Q E
theorem op_ownI (c : OpT X.K C f op "int") (F : FnOk X.prog X.w X.K X.mg X.base CX k f fd ps sp) (hr : Room k X.A) (hb : Binds X.K fd ps []) (hx : Passes CX X E) : OpR X (binaryOp op) (rOwnI C sp E) := by
  intro pins s σ H x y v u Q I rx ry h
  obtain ⟨a, dx, fs, i, rfl, rfl, ea, q⟩ := h
  obtain rfl : v = Value.ref a := rx
  obtain ⟨t, rfl⟩ := ry
  obtain ⟨m, fr⟩ := I.fr
  obtain ⟨mA, O, _⟩ := ins_get I.hok ea
  obtain ⟨od, J, _⟩ := O.look
  obtain ⟨rc, hr1, hr2⟩ := c.hr
  obtain ⟨fo, h1⟩ := c.h1
  obtain ⟨ro, h2⟩ := c.h2
  refine PySem.W.ksp_binT fr I.ok.mod.kin J (T := "int") rfl c.c.sf c.c.at_ c.c.fn hr1 hr2 h1 h2 c.sub ?_
  refine wpAny_mono (run_fn (us := [.ref a, .int i t]) (vs := [.ref a, .int i]) (ds := []) (dvs := []) F hr hb .nil hx I (.cons rfl (.cons ⟨t, rfl⟩ .nil)) q) (fun u' s' h' => cmpBack_of h') fun _ _ z => z
/-- ~a -/
theorem un_own (c : InvC X.K C f) (F : FnOk X.prog X.w X.K X.mg X.base CX k f fd ps sp) (hr : Room k X.A) (hb : Binds X.K fd ps []) (hx : Passes CX X E) : UnR X (unaryOp .Invert) (fun x H Q => ∃ a dx fs, x = .ref a ∧ H a = some (.ins C dx fs) ∧ sp [.ref a] H Q E) := by
  intro pins s σ H x v Q I rx h
  obtain ⟨a, dx, fs, rfl, ea, q⟩ := h
  obtain rfl : v = Value.ref a := rx
  obtain ⟨m, fr⟩ := I.fr
  obtain ⟨mA, O, _⟩ := ins_get I.hok ea
  obtain ⟨od, J, _⟩ := O.look
  exact PySem.W.ksp_inv fr I.ok.mod.kin J c.at_ c.fn (run_fn (us := [.ref a]) (vs := [.ref a]) (ds := []) (dvs := []) F hr hb .nil hx I (.cons rfl .nil) q)
end

section
variable {X : Cx} {CX : CXT} {k : Nat} {C f : Addr} {fd : FuncData} {ps : List Str} {sp : Sp} {E : L2.St → XK} {op : Operator} {a b : Expr} {ta tb : TE} {pos : Pos}
/-- .. what it lets out being taken where it stands -/
def tOwnS (C : Addr) (sp : Sp) (E : L2.St → XK) (ta tb : TE) : TE := fun σ H Q => ta σ H fun x H1 => tb σ H1 fun y H2 => ∃ a b dx fs dy gs, x = .ref a ∧ y = .ref b ∧ H2 a = some (.ins C dx fs) ∧ H2 b = some (.ins C dy gs) ∧ sp [.ref a, .ref b] H2 Q (E σ)
theorem pe_bopS (c : OpC X.K C f op) (F : FnOk X.prog X.w X.K X.mg X.base CX k f fd ps sp) (hr : Room k X.A) (hb : Binds X.K fd ps []) (hx : ∀ σ, PassesAt CX X σ (E σ)) (ha : PE X a ta) (hb2 : PE X b tb) : PE X (.BinOp a op b pos) (tOwnS C sp E ta tb) := by
  refine ⟨fun pins s σ H Q I h => ?_⟩
  refine wpAny_BinOp (thn (ha.run pins s σ H _ I h) fun v s1 ⟨x, H1, I1, rx, q1⟩ => thn (hb2.run pins s1 σ H1 _ I1 q1) fun u s2 ⟨y, H2, I2, ry, a, b, dx, fs, dy, gs, ex, ey, ea, eb, q⟩ => ?_)
  subst ex ey
  obtain rfl : v = Value.ref a := rx
  obtain rfl : u = Value.ref b := ry
  obtain ⟨m, fr⟩ := I2.fr
  obtain ⟨mA, O, _⟩ := ins_get I2.hok ea
  obtain ⟨od, J, _⟩ := O.look
  obtain ⟨mB, O2, _⟩ := ins_get I2.hok eb
  obtain ⟨od2, J2, _⟩ := O2.look
  refine PySem.W.binop_K fr I2.ok.mod.kin J J2.type c.sf c.at_ c.fn ?_
  refine wpAny_mono (run_fnS (us := [.ref a, .ref b]) (vs := [.ref a, .ref b]) F hr hb (hx σ) I2 (.cons rfl (.cons rfl .nil)) q) (fun u' s' h' => cmpBack_of h') fun _ _ z => z
end

/-! ### static methods, by the class's name -/
structure SMet (K : PySem.W.Frag) (C : Addr) (mc : Value) (m : Str) (p g : Addr) : Prop where
  at_ : PySem.W.findCls K (.ref C) mc m = some (.get (.builtin "staticmethod.__get__") (.ref p) .none (.ref C))
  rc : ∃ rest, PySem.W.recIn K p "staticmethod" = some (.ref g :: rest)
  kp : PySem.W.keepIn K (.ref g) = true
section
variable {X : Cx} {CX : CXT} {k : Nat} {C p g : Addr} {mc : Value} {fd : FuncData} {ps : List Str} {sp : Sp} {E : XK} {o e : Expr} {es : List Expr} {m : Str} {pos apos : Pos} {ta : TE} {t : TA} {pl : Sem Bool}
def tSM (C : Addr) (sp : Sp) (E : XK) (ta : TE) (t : TA) : TE := fun σ H Q => ta σ H fun x H1 => x = .ref C ∧ t σ H1 fun vs H2 => sp vs H2 Q E
theorem getsm_ok {pins : List (Addr × Obj)} {σ : L2.St} {H : Hp} {s : Shared} {A : Around} {E : Value → Shared → Prop} {Q : Value × List Value → Shared → Prop} (I : Inv X pins σ H s) (r : ClX.CRead X.K C mc) (c : SMet X.K C mc m p g)
    (h : ∀ s', Inv X pins σ H s' → Q (.ref g, []) s') : wpAny (model X.prog X.w) A (getMethod (.ref C) m pl) Q E s := by
  obtain ⟨rest, hp⟩ := c.rc
  refine PySem.W.method_cls I.kIn r.ga ?_
  refine PySem.W.cls_bind I.kIn r.rd c.at_ ?_
  exact wpAny_call (PySem.W.sm_get (s := { s with toks := s.toks + 1 }) I.kIn hp (PySem.W.handed_on rfl (h _ (I.tok _))))
theorem pe_smeth (he : PE X o ta) (r : ClX.CRead X.K C mc) (c : SMet X.K C mc m p g) (F : FnOk X.prog X.w X.K X.mg X.base CX k g fd ps sp) (hr : Room k X.A) (hb : Binds X.K fd ps []) (hx : Passes CX X E) (ha : PA X (e :: es) t)
    (hst : starEach (e :: es) X.env = (false, eval e X.env) :: starEach es X.env := by rfl) (hpl : (backTo pos (starEach es X.env)).any (·.1) = false := by rfl)
    (ht : eval (.Call (.Attribute o m apos) (e :: es) [] pos) X.env = (do
      let ov ← eval o X.env
      standAt apos.atName
      let (f, first) ← holding [ov] (getMethod ov m pl)
      callWith pos f first (backTo pos (starEach (e :: es) X.env)) (backToKw pos (keywordEach [] X.env))) := by rfl) :
    PE X (.Call (.Attribute o m apos) (e :: es) [] pos) (tSM C sp E ta t) := by
  refine ⟨fun pins s σ H Q I h => ?_⟩
  refine PySem.W.methodCall_KW (pl := pl) (thn (he.run pins s σ H _ I h) fun u s1 ⟨x, H1, I1, rx, ex, q⟩ => ?_) ht
  subst ex
  obtain rfl : u = Value.ref C := rx
  refine getsm_ok I1 r c fun s2 I2 => ?_
  refine PySem.W.callWith_K (h₀ := X.base) I2.ok.mod.kin c.kp (thn (ha.run pos pins s2 σ H1 _ I2 q) fun us s3 ⟨vs, H2, I3, rv, q2⟩ => ⟨I3.kIn, ?_⟩) hst hpl
  have hl : sp (vs ++ []) H2 Q E := by rw [List.append_nil]; exact q2
  exact run_fn (ds := []) (dvs := []) F hr hb .nil hx I3 rv hl
theorem pe_smeth0 (he : PE X o ta) (r : ClX.CRead X.K C mc) (c : SMet X.K C mc m p g) (F : FnOk X.prog X.w X.K X.mg X.base CX k g fd ps sp) (hr : Room k X.A) (hb : Binds X.K fd ps []) (hx : Passes CX X E)
    (ht : eval (.Call (.Attribute o m apos) [] [] pos) X.env = (do
      let ov ← eval o X.env
      standAt apos.atName
      let (f, first) ← holding [ov] (getMethod ov m pl)
      callWith pos f first (backTo pos (starEach [] X.env)) (backToKw pos (keywordEach [] X.env))) := by rfl) :
    PE X (.Call (.Attribute o m apos) [] [] pos) (tSM C sp E ta tNil) := by
  refine ⟨fun pins s σ H Q I h => ?_⟩
  refine PySem.W.methodCall_KW (pl := pl) (thn (he.run pins s σ H _ I h) fun u s1 ⟨x, H1, I1, rx, ex, q⟩ => ?_) ht
  subst ex
  obtain rfl : u = Value.ref C := rx
  refine getsm_ok I1 r c fun s2 I2 => ?_
  exact PySem.W.callWith_K0 I2.kIn c.kp (run_fn (us := []) (vs := []) (ds := []) (dvs := []) F hr hb .nil hx I2 .nil q)
end

/-! ### defs of own classes, ready to be called -/
structure CalB (P : Program) (w : World) (K : PySem.W.Frag) (mg : Str → Option Value) (base : Heap) (CX : CXT) (k : Nat) (f : Addr) (fd : FuncData) (ps : List Str) (sp : Sp) : Prop where
  G : FnOk P w K mg base CX k f fd ps sp
  b : Binds K fd ps []
structure CalI (P : Program) (w : World) (K : PySem.W.Frag) (mg : Str → Option Value) (base : Heap) (CX : CXT) (k : Nat) (x : Str) (C f : Addr) (fd : FuncData) (ps : List Str) (sp : Sp) : Prop extends CalB P w K mg base CX k f fd ps sp where
  mkc : Mk K C f
  m : mg x = some (.ref C)
structure CalS (P : Program) (w : World) (K : PySem.W.Frag) (mg : Str → Option Value) (base : Heap) (CX : CXT) (k : Nat) (C p : Addr) (m : Str) (f : Addr) (fd : FuncData) (ps : List Str) (sp : Sp) : Prop extends CalB P w K mg base CX k f fd ps sp where
  rd : ClX.CRead K C (.type "type")
  sm : SMet K C (.type "type") m p f
structure CalP (P : Program) (w : World) (K : PySem.W.Frag) (mg : Str → Option Value) (base : Heap) (CX : CXT) (k : Nat) (C p : Addr) (m : Str) (f : Addr) (fd : FuncData) (ps : List Str) (sp : Sp) : Prop extends CalB P w K mg base CX k f fd ps sp where
  cl : Cls K C
  pr : PropOf K C m p f
structure CalO (P : Program) (w : World) (K : PySem.W.Frag) (mg : Str → Option Value) (base : Heap) (CX : CXT) (k : Nat) (C : Addr) (op : Operator) (f : Addr) (fd : FuncData) (ps : List Str) (sp : Sp) : Prop extends CalB P w K mg base CX k f fd ps sp where
  op : OpC K C f op
structure CalC (P : Program) (w : World) (K : PySem.W.Frag) (mg : Str → Option Value) (base : Heap) (CX : CXT) (k : Nat) (C f : Addr) (fd : FuncData) (ps : List Str) (sp : Sp) : Prop extends CalB P w K mg base CX k f fd ps sp where
  co : StX.CallO K C f

/-! ### the written part named (in comprehensions) -/
section
variable {X : Cx} {e : Expr} {es : List Expr} {f : Str} {pos p : Pos} {ta : TE} {t : TA}
theorem e_f (K : PySem.W.Frag) (he : PE X e ta) (hb : attributeBase e f X.env (eval e X.env) = eval e X.env := by rfl) (h : X.K = K := by rfl) : PE X (.Attribute e f pos) (tFld K ta f) := h ▸ pe_fld he hb
theorem e_cv (K : PySem.W.Frag) (he : PE X e ta) (hb : attributeBase e f X.env (eval e X.env) = eval e X.env := by rfl) (h : X.K = K := by rfl) : PE X (.Attribute e f pos) (ClX.tCVal K ta f) := h ▸ ClX.pe_cval he hb
end

/-! ### len of an own class -/
structure LenC (K : PySem.W.Frag) (C f : Addr) : Prop where
  at_ : PySem.W.findIn K (.ref C) "__len__" = some (some (.ref f))
  fn : PySem.W.isFn K (.ref f) = true
theorem call_lenO {X : Cx} {k : Nat} {C f : Addr} {fd : FuncData} {ps : List Str} {sp : Sp} (c : LenC X.K C f) (F : FnOk X.prog X.w X.K X.mg X.base CX0 k f fd ps sp) (hr : Room (k + 1) X.A) (hb : Binds X.K fd ps []) :
    CallR X (.builtin "len") (fun xs H Q => ∃ a dx fs, xs = [.ref a] ∧ H a = some (.ins C dx fs) ∧ sp [.ref a] H (fun v H' => ∃ n : Int, v = .int n ∧ 0 ≤ n ∧ n < 2 ^ 62 ∧ Q (.int n) H') E0) := by
  intro pins s σ H xs us Q I r h
  obtain ⟨a, dx, fs, rfl, ea, q⟩ := h
  obtain rfl := Vals.ref1 r
  obtain ⟨m, fr⟩ := I.fr
  obtain ⟨mA, O, _⟩ := ins_get I.hok ea
  obtain ⟨od, J, _⟩ := O.look
  refine PySem.W.len_K fr I.ok.mod.kin J c.at_ c.fn ?_
  have hl : ([Value.ref a] ++ []).length = ps.length := (F.len _ _ _ _ q)
  have b := hb s [.ref a] I.kIn hl
  rw [List.append_nil] at b
  refine wpAny_call (codeAny_mono (F.run X.A.in1 X.stack s H ⟨[.ref a], []⟩ [.ref a] [.ref a] _ E0 hr.in1 I.env0.in1 b (.cons rfl .nil) q) fun r s' hq' => ?_)
  cases r with
  | error e => exact False.elim hq'
  | ok fl =>
    cases fl with
    | ret u =>
      obtain ⟨v, H', I3, rv, n, rfl, h0, h1, q3⟩ := I.after hq'
      obtain ⟨t, rfl⟩ := rv
      exact ⟨⟨h0, Int.lt_trans h1 (by decide)⟩, ⟨.int n, H', I3.tok _, ⟨_, rfl⟩, q3⟩⟩
    | next => exact False.elim hq'
    | brk => exact False.elim hq'
    | cont => exact False.elim hq'
structure CalL (P : Program) (w : World) (K : PySem.W.Frag) (mg : Str → Option Value) (base : Heap) (CX : CXT) (k : Nat) (C f : Addr) (fd : FuncData) (ps : List Str) (sp : Sp) : Prop extends CalB P w K mg base CX k f fd ps sp where
  le : LenC K C f
end El

set_option Elab.async false
set_option linter.all false
set_option maxRecDepth 100000
set_option maxHeartbeats 4000000
/-! Own words: static methods and callable objects inside a try; exception classes that inherit their __init__. -/
namespace El
open PySem PySem.Spec PyProof.Rows L2
section
variable {X : Cx} {CX : CXT} {k : Nat} {C p g f : Addr} {mc : Value} {fd : FuncData} {ps : List Str} {sp : Sp} {E : L2.St → XK} {o e fe : Expr} {es : List Expr} {m : Str} {pos apos : Pos} {ta tf : TE} {t : TA} {pl : Sem Bool}
theorem code_fnS {pins : List (Addr × Obj)} {σ : L2.St} {H : Hp} {s : Shared} {Q : VK} {us : List Value} {vs : List V} (F : FnOk X.prog X.w X.K X.mg X.base CX k f fd ps sp) (hr : Room k X.A) (hb : Binds X.K fd ps []) (hx : PassesAt CX X σ (E σ))
    (I : Inv X pins σ H s) (r : Vals vs us) (h : sp vs H Q (E σ)) : codeAny (model X.prog X.w) X.A (.call (.ref f) ⟨us, []⟩) (fun r s' => match r with | .ok (.ret u) => EP X pins σ Q u s' | .error e => X.xe e s' | _ => False) s := by
  have hl : us.length = ps.length := by rw [← r.length]; exact F.len _ _ _ _ h
  have b := hb s us I.kIn (by rw [List.append_nil]; exact hl)
  rw [List.append_nil] at b
  refine codeAny_mono (F.run X.A X.stack s H ⟨us, []⟩ us vs Q (E σ) hr I.env0 b r h) fun r s' hq => ?_
  cases r with
  | error e => exact hx pins H s e s' I hq
  | ok fl =>
    cases fl with
    | ret u => exact I.after hq
    | next => exact False.elim hq
    | brk => exact False.elim hq
    | cont => exact False.elim hq
/-- C.m(e, ..), what it lets out being taken where it stands -/
def tSMS (C : Addr) (sp : Sp) (E : L2.St → XK) (ta : TE) (t : TA) : TE := fun σ H Q => ta σ H fun x H1 => x = .ref C ∧ t σ H1 fun vs H2 => sp vs H2 Q (E σ)
theorem pe_smethS (he : PE X o ta) (r : ClX.CRead X.K C mc) (c : SMet X.K C mc m p g) (F : FnOk X.prog X.w X.K X.mg X.base CX k g fd ps sp) (hr : Room k X.A) (hb : Binds X.K fd ps []) (hx : ∀ σ, PassesAt CX X σ (E σ)) (ha : PA X (e :: es) t)
    (hst : starEach (e :: es) X.env = (false, eval e X.env) :: starEach es X.env := by rfl) (hpl : (backTo pos (starEach es X.env)).any (·.1) = false := by rfl)
    (ht : eval (.Call (.Attribute o m apos) (e :: es) [] pos) X.env = (do
      let ov ← eval o X.env
      standAt apos.atName
      let (f, first) ← holding [ov] (getMethod ov m pl)
      callWith pos f first (backTo pos (starEach (e :: es) X.env)) (backToKw pos (keywordEach [] X.env))) := by rfl) :
    PE X (.Call (.Attribute o m apos) (e :: es) [] pos) (tSMS C sp E ta t) := by
  refine ⟨fun pins s σ H Q I h => ?_⟩
  refine PySem.W.methodCall_KW (pl := pl) (thn (he.run pins s σ H _ I h) fun u s1 ⟨x, H1, I1, rx, ex, q⟩ => ?_) ht
  subst ex
  obtain rfl : u = Value.ref C := rx
  refine getsm_ok I1 r c fun s2 I2 => ?_
  refine PySem.W.callWith_K (h₀ := X.base) I2.ok.mod.kin c.kp (thn (ha.run pos pins s2 σ H1 _ I2 q) fun us s3 ⟨vs, H2, I3, rv, q2⟩ => ⟨I3.kIn, ?_⟩) hst hpl
  exact run_fnS F hr hb (hx σ) I3 rv q2
/-- f(e, ..), f an instance of C, what it lets out being taken where it stands -/
def tCallOS (C : Addr) (sp : Sp) (E : L2.St → XK) (tf : TE) (t : TA) : TE := fun σ H Q => tf σ H fun y H1 => ∃ a, y = V.ref a ∧ t σ H1 fun vs H2 => (∃ dx fs, H2 a = some (.ins C dx fs)) ∧ sp (V.ref a :: vs) H2 Q (E σ)
theorem pe_callOS (hf : PE X fe tf) (c : StX.CallO X.K C g) (F : FnOk X.prog X.w X.K X.mg X.base CX k g fd ps sp) (hb : Binds X.K fd ps []) (hr : Room k X.A) (hx : ∀ σ, PassesAt CX X σ (E σ)) (ha : PA X (e :: es) t)
    (ht : eval (.Call fe (e :: es) [] pos) X.env = (do callWith pos (← eval fe X.env) [] (backTo pos (starEach (e :: es) X.env)) (backToKw pos (keywordEach [] X.env))) := by rfl)
    (he : starEach (e :: es) X.env = (false, eval e X.env) :: starEach es X.env := by rfl) (hpl : (backTo pos (starEach es X.env)).any (·.1) = false := by rfl) : PE X (.Call fe (e :: es) [] pos) (tCallOS C sp E tf t) := by
  refine ⟨fun pins s σ H Q I h => ?_⟩
  refine Call_ (thn (hf.run pins s σ H _ I h) fun u s1 ⟨y, H1, I1, ry, a, ey, q⟩ => ?_) ht
  subst ey
  obtain rfl : u = Value.ref a := ry
  refine StX.callO_with (thn (ha.run pos pins s1 σ H1 _ I1 q) fun us s2 ⟨vs, H2, I2, r, hi, q2⟩ => ?_) he hpl
  obtain ⟨ox, od, J, hd⟩ := StX.insC_at I2 (.inr hi)
  refine ⟨⟨C, ox, od, J, hd⟩, ?_⟩
  refine wpAny_call (PySem.W.kco_code I2.kIn J hd c.at_ c.fn c.fi (codeAny_mono (code_fnS (us := .ref a :: us) (vs := .ref a :: vs) F hr hb (hx σ) I2 (.cons rfl r) q2) fun r s' h => ?_))
  cases r with
  | error e => exact h
  | ok fl =>
    cases fl with
    | ret u => exact h
    | next => exact False.elim h
    | brk => exact False.elim h
    | cont => exact False.elim h
end

/-! ### an exception class C whose __init__ is that of D above it -/
open NdefX
structure ExI (K : PySem.W.Frag) (C D fI : Addr) (fields : List Str) : Prop where
  oex : OexC K C
  sup : PySem.W.ks_superIn K C D "__init__" = some (some (.builtin "ValueError.__init__"))
  subV : PySem.W.subIn K (.ref C) (.type "ValueError") = some true
  mro : PySem.W.mroIn K C (.ref D) = some true
  iC : PySem.W.findIn K (.ref C) "__init__" = some (some (.ref fI))
  tI : PySem.W.typeIn K (.ref fI) = some (.type "function")
  no : ∀ f ∈ fields, PySem.W.findIn K (.ref C) f = some none
  xf : XfC K C
  is : ExcC K C
theorem exi_mk {K : PySem.W.Frag} {C D fI N : Addr} {fields : List Str} {nm q : Str} {bs bm : List Value} {sn : List Str} {sub : List Value} {ab : Bool} {col : Option Bool} {dd : Option Addr} {k0 k1 k2 k3 k5 : Option Value}
    (cls : K.lookup C = some (excClassObj nm q C N bs bm true sn sub ab col dd k0 k1 k2 k3 k5 "ValueError.__new__")) (ref : PySem.HandSPX.refsVE bm = true)
    (sa : PySem.W.findIn K (.ref C) "__setattr__" = some (some (.builtin "object.__setattr__"))) (exC : PySem.W.subIn K (.ref C) (.type "BaseException") = some true) (tyC : PySem.W.typeIn K (.ref C) = some (.type "type")) (kC : PySem.W.keepIn K (.ref C) = true)
    (sup : PySem.W.ks_superIn K C D "__init__" = some (some (.builtin "ValueError.__init__"))) (subV : PySem.W.subIn K (.ref C) (.type "ValueError") = some true) (mro : PySem.W.mroIn K C (.ref D) = some true)
    (iC : PySem.W.findIn K (.ref C) "__init__" = some (some (.ref fI))) (tI : PySem.W.typeIn K (.ref fI) = some (.type "function")) (no : ∀ f ∈ fields, PySem.W.findIn K (.ref C) f = some none)
    (ga : PySem.W.findIn K (.ref C) "__getattribute__" = some (some (.builtin "BaseException.__getattribute__"))) (gg : PySem.W.findIn K (.ref C) "__getattr__" = some none) (hd : PySem.W.hasDictIn K C = true)
    (hcl : PySem.W.findIn K (.ref C) "__class__" = some (some (.builtin "object.__class__"))) (hn : PySem.W.specialIn K (.builtin "object.__class__") "__get__" = some (some (.builtin "getset_descriptor.__get__"))) (ht : PySem.W.takesIn K (.builtin "object.__class__") = some true) (hm : PySem.W.mroIn K C (.type "object") = some true) : ExI K C D fI fields :=
  ⟨⟨⟨nm, q, N, bs, bm, sn, sub, ab, col, dd, k0, k1, k2, k3, k5, cls, ref⟩, sa, exC, tyC, kC⟩, sup, subV, mro, iC, tI, no, ⟨ga, gg, exC, hd⟩, ⟨ga, gg, exC, hd, hcl, hn, ht, hm⟩⟩
structure CalEI (P : Program) (w : World) (K : PySem.W.Frag) (mg : Str → Option Value) (base : Heap) (k : Nat) (x : Str) (C f : Addr) (fd : FuncData) (ps : List Str) (ok : List V → Prop) (fs : List V → List (Str × V)) (fields : List Str) : Prop where
  G : FnOk P w K mg base CX0 k f fd ps (spE C ok fs)
  b : Binds K fd ps []
  X : ∃ D, ExI K C D f fields
  m : mg x = some (.ref C)
theorem CalEI.oex {P : Program} {w : World} {K : PySem.W.Frag} {mg : Str → Option Value} {base : Heap} {k : Nat} {x : Str} {C f : Addr} {fd : FuncData} {ps : List Str} {ok : List V → Prop} {fs : List V → List (Str × V)} {fields : List Str} (c : CalEI P w K mg base k x C f fd ps ok fs fields) : OexC K C := by obtain ⟨D, X⟩ := c.X; exact X.oex
theorem CalEI.iC {P : Program} {w : World} {K : PySem.W.Frag} {mg : Str → Option Value} {base : Heap} {k : Nat} {x : Str} {C f : Addr} {fd : FuncData} {ps : List Str} {ok : List V → Prop} {fs : List V → List (Str × V)} {fields : List Str} (c : CalEI P w K mg base k x C f fd ps ok fs fields) : PySem.W.findIn K (.ref C) "__init__" = some (some (.ref f)) := by obtain ⟨D, X⟩ := c.X; exact X.iC
theorem CalEI.tI {P : Program} {w : World} {K : PySem.W.Frag} {mg : Str → Option Value} {base : Heap} {k : Nat} {x : Str} {C f : Addr} {fd : FuncData} {ps : List Str} {ok : List V → Prop} {fs : List V → List (Str × V)} {fields : List Str} (c : CalEI P w K mg base k x C f fd ps ok fs fields) : PySem.W.typeIn K (.ref f) = some (.type "function") := by obtain ⟨D, X⟩ := c.X; exact X.tI
/-! ### characters whose repr is bounded -/
def Asc (z : Str) : Prop := ∀ c ∈ z.cps.toList, c < 16 ^ 8
theorem repr_le {z : Str} (h : Asc z) (hl : z.length ≤ 1000) : (reprText z).length ≤ 10002 := Nat.le_trans (PySem.StrLaws.reprText_len z h) (by omega)
end El

set_option Elab.async false
set_option linter.all false
set_option maxRecDepth 100000
set_option maxHeartbeats 4000000
/-! Own words: methods of own classes, classes whose __init__ has defaults, tuple targets in comprehensions. -/
namespace El
open PySem PySem.Spec PyProof.Rows L2
structure CalM (P : Program) (w : World) (K : PySem.W.Frag) (mg : Str → Option Value) (base : Heap) (CX : CXT) (k : Nat) (C : Addr) (m : Str) (f : Addr) (fd : FuncData) (ps : List Str) (sp : Sp) : Prop extends CalB P w K mg base CX k f fd ps sp where
  cl : Cls K C
  me : Meth K C m f
/-- a class whose __init__ has defaults dvs that fill up -/
structure CalID (P : Program) (w : World) (K : PySem.W.Frag) (mg : Str → Option Value) (base : Heap) (CX : CXT) (k : Nat) (x : Str) (C f : Addr) (fd : FuncData) (ps : List Str) (dvs : List V) (sp : Sp) : Prop where
  G : FnOk P w K mg base CX k f fd ps sp
  b : ∃ ds, Vals dvs ds ∧ Binds K fd ps ds
  mkc : Mk K C f
  m : mg x = some (.ref C)
section
variable {X : Cx} {CX : CXT} {k : Nat} {C f : Addr} {fd : FuncData} {ps : List Str} {dvs : List V} {sp : Sp} {E : XK} {x : Str} {p pos : Pos} {e : Expr} {es : List Expr} {t : TA}
theorem pe_makeD (c : CalID X.prog X.w X.K X.mg X.base CX k x C f fd ps dvs sp) (hr : Room (k + 1) X.A) (hg : Gl X x) (hx : Passes CX X E) (ha : PA X (e :: es) t) (hdb : (x == ("__debug__" : Str)) = false := by decide)
    (he : starEach (e :: es) X.env = (false, eval e X.env) :: starEach es X.env := by rfl) (hpl : (backTo pos (starEach es X.env)).any (·.1) = false := by rfl) :
    PE X (.Call (.Name x p) (e :: es) [] pos) (tMake C sp dvs E t) := by
  obtain ⟨ds, hd, hb⟩ := c.b
  exact pe_make c.mkc c.G hr hg c.m hb hd hx ha hdb he hpl
end
section
variable {X : Cx}
theorem pg_tupK (K : PySem.W.Frag) {es : List Expr} {k : Nat} {t : TGs} {n : Nat} {pos : Pos} (hc : X.calm = true) (h : PGs X es t)
    (hn : (assignEach es X.env).length = n := by rfl) (hst : (assignEach es X.env).findIdx? (·.1) = none := by rfl) (hK : X.K = K := by rfl) : PG X (.Tuple es k pos) (gTup K n t) := hK ▸ pg_tup hc h hn hst
end
/-- a def of the text whose last parameter has a default -/
theorem fund_mk {K : PySem.W.Frag} {x qual : Str} {st : Stmt} {f T : Addr} {oc : Value} {od dd an : Option Addr} {osl dsl : Array (Option Value)} {kV doc pm cdv ct : Value} {its : Array Value} {n : Nat} {dvs : List V}
    (l : K.lookup f = some ⟨oc, od, .func (PySem.W.fnOf x qual (defArgs st) (defBody st) (defScope st) (.ref T) kV doc pm an cdv ct), osl⟩) (c : PySem.W.codeIn K cdv qual = true) (k : PySem.W.keepIn K (.ref f) = true)
    (lT : K.lookup T = some ⟨.type "tuple", dd, .seq its n, dsl⟩) (hv : Vals dvs its.toList) (hne : dvs ≠ []) : FunD K x qual (defArgs st) (defBody st) (defScope st) dvs [] f (PySem.W.fnOf x qual (defArgs st) (defBody st) (defScope st) (.ref T) kV doc pm an cdv ct) :=
  ⟨⟨oc, od, .ref T, kV, doc, pm, an, cdv, ct, osl, rfl, l, c, .inr ⟨hne, T, _, its.toList, n, rfl, lT, by simp, hv⟩, .inl rfl⟩, k⟩
end El

set_option Elab.async false
set_option linter.all false
set_option maxRecDepth 100000
set_option maxHeartbeats 4000000
/-! Own words: `in`, `not in` and `[..]` of own classes. -/
namespace El
open PySem PySem.Spec PyProof.Rows L2
/-- an own class's `__contains__` -/
structure InC (K : PySem.W.Frag) (C f : Addr) : Prop where
  at_ : PySem.W.findIn K (.ref C) "__contains__" = some (some (.ref f))
  fn : PySem.W.isFn K (.ref f) = true
/-- an own class's `__getitem__` -/
structure ItC (K : PySem.W.Frag) (C f : Addr) : Prop where
  at_ : PySem.W.findIn K (.ref C) "__getitem__" = some (some (.ref f))
  fn : PySem.W.isFn K (.ref f) = true
  ns : PySem.W.noSeq K C = true
section
variable {X : Cx} {CX : CXT} {k : Nat} {C f : Addr} {fd : FuncData} {ps : List Str} {sp : Sp} {E : XK}
/-- x in a, a of the class at C; n: not in -/
def rInO (n : Bool) (C : Addr) (sp : Sp) (E : XK) : R2 := fun x y H Q => ∃ a dx fs, y = .ref a ∧ H a = some (.ins C dx fs) ∧ sp [.ref a, x] H (fun v H' => ∃ b : Bool, v = .bl b ∧ Q (.bl (n ^^ b)) H') E
theorem op_inO (c : InC X.K C f) (F : FnOk X.prog X.w X.K X.mg X.base CX k f fd ps sp) (hr : Room k X.A) (hb : Binds X.K fd ps []) (hx : Passes CX X E) : OpR X (compareOp .In) (rInO false C sp E) := by
  intro pins s σ H x y v u Q I rx ry h
  obtain ⟨a, dx, fs, rfl, ea, q⟩ := h
  obtain rfl : u = Value.ref a := ry
  obtain ⟨m, fr⟩ := I.fr
  obtain ⟨mA, O, _⟩ := ins_get I.hok ea
  obtain ⟨od, J, _⟩ := O.look
  refine PySem.W.in_K fr I.ok.mod.kin J c.at_ c.fn ?_
  refine wpAny_mono (run_fn (us := [.ref a, v]) (vs := [.ref a, x]) (ds := []) (dvs := []) F hr hb .nil hx I (.cons rfl (.cons rx .nil)) q) (fun u' s' h' => ?_) fun _ _ z => z
  obtain ⟨w, H', I', rw', b, rfl, q'⟩ := h'
  cases (show u' = Value.bool b from rw')
  refine wpAny_pure ⟨.bl b, H', I', rfl, ?_⟩
  cases b <;> exact q'
theorem op_notInO (c : InC X.K C f) (F : FnOk X.prog X.w X.K X.mg X.base CX k f fd ps sp) (hr : Room k X.A) (hb : Binds X.K fd ps []) (hx : Passes CX X E) : OpR X (compareOp .NotIn) (rInO true C sp E) := by
  intro pins s σ H x y v u Q I rx ry h
  obtain ⟨a, dx, fs, rfl, ea, q⟩ := h
  obtain rfl : u = Value.ref a := ry
  obtain ⟨m, fr⟩ := I.fr
  obtain ⟨mA, O, _⟩ := ins_get I.hok ea
  obtain ⟨od, J, _⟩ := O.look
  refine PySem.W.notIn_K fr I.ok.mod.kin J c.at_ c.fn ?_
  refine wpAny_mono (run_fn (us := [.ref a, v]) (vs := [.ref a, x]) (ds := []) (dvs := []) F hr hb .nil hx I (.cons rfl (.cons rx .nil)) q) (fun u' s' h' => ?_) fun _ _ z => z
  obtain ⟨w, H', I', rw', b, rfl, q'⟩ := h'
  cases (show u' = Value.bool b from rw')
  refine wpAny_pure ⟨.bl (!b), H', I', rfl, ?_⟩
  cases b <;> exact q'
/-- a[y], a of the class at C -/
def rItO (C : Addr) (sp : Sp) (E : XK) : R2 := fun x y H Q => ∃ a dx fs, x = .ref a ∧ H a = some (.ins C dx fs) ∧ sp [.ref a, y] H Q E
theorem op_itO (c : ItC X.K C f) (F : FnOk X.prog X.w X.K X.mg X.base CX k f fd ps sp) (hr : Room k X.A) (hb : Binds X.K fd ps []) (hx : Passes CX X E) : OpR X getItem (rItO C sp E) := by
  intro pins s σ H x y v u Q I rx ry h
  obtain ⟨a, dx, fs, rfl, ea, q⟩ := h
  obtain rfl : v = Value.ref a := rx
  obtain ⟨m, fr⟩ := I.fr
  obtain ⟨mA, O, _⟩ := ins_get I.hok ea
  obtain ⟨od, J, _⟩ := O.look
  refine PySem.W.getItem_K fr I.ok.mod.kin J c.ns c.at_ c.fn ?_
  exact run_fn (us := [.ref a, u]) (vs := [.ref a, y]) (ds := []) (dvs := []) F hr hb .nil hx I (.cons rfl (.cons ry .nil)) q
end
end El

set_option Elab.async false
set_option linter.all false
set_option maxRecDepth 100000
set_option maxHeartbeats 4000000
/-! Own words: iterating an own class whose `__iter__` returns iter(..) of a tuple. -/
namespace El
open PySem PySem.Spec PyProof.Rows L2
/-- a promise that may speak of how many objects there were at the call -/
def FnS (P : Program) (w : World) (K : PySem.W.Frag) (mg : Str → Option Value) (base : Heap) (CX : CXT) (k : Nat) (f : Addr) (sp : Nat → Sp) : Prop :=
  ∀ (A : Around) (outer : List Env) (s : Shared) (H : Hp) (us : List Value) (vs : List V) (Q : VK) (E : XK), Room k A → Env0 P w K mg base A outer s H → Vals vs us → sp s.heap.objs.size vs H Q E →
    codeAny (model P w) A (.call (.ref f) ⟨us, []⟩) (CR CX outer P w H s Q E) s
section
variable {P : Program} {w : World} {K : PySem.W.Frag} {mg : Str → Option Value} {base : Heap} {j k : Nat} {f : Addr} {sp : Nat → Sp}
theorem FnS.mono {CX : CXT} (F : FnS P w K mg base CX j f sp) (h : j ≤ k) : FnS P w K mg base CX k f sp := fun A outer s H us vs Q E hr => F A outer s H us vs Q E (hr.mono h)
theorem fun_okS {x qual : Str} {st : Stmt} {fd : FuncData} {N ps : List Str} (F : Fun K x qual st f fd) (S : FnScope N ps (defScope st)) (hb : Binds K fd ps []) (len : ∀ n vs H Q E, sp n vs H Q E → vs.length = ps.length)
    (hbody : ∀ (cdv : Value) (A : Around) (outer : List Env) (s : Shared) (H : Hp) (vs : List V) (Q : VK) (E : XK), Room k (A.deeper (envOfC qual (defScope st) s.heap.objs.size f cdv)) → sp s.heap.objs.size vs H Q E →
      ∃ t, PSs (cxOf CX0 P w K mg base N qual (defScope st) f cdv A outer s H E).nox (defBody st) t ∧ t { nx := fun _ H' => Q .non H', rt := Q } (start N vs) H) : FnS P w K mg base CX0 (k + 1) f sp := by
  obtain ⟨oc, od, kV, doc, pm, an, cdv, ct, osl, rfl, lk, hcd⟩ := F.ex
  intro A outer s H us vs Q E hr e0 r hsp
  have hl := len _ _ _ _ _ hsp
  have KX : K.In s.heap := e0.mod.kin.keeps fun b o e => (e0.bs b o e).1
  have bt := hb s us KX (by rw [List.append_nil, ← r.length]; exact hl)
  rw [List.append_nil] at bt
  have nl : s.heap.NoLimit := e0.mod.nolimit.keeps fun b o e => (e0.bs b o e).1
  refine codeAny_call_function hr.depth (KX _ _ lk) rfl S.co S.gen rfl (PySem.W.codeRec_of KX hcd) (bt _ _ _ _ ?_)
  refine wpAny_newFunctionEnv_cells S.kind (fun y hy => (S.par y.1 (List.of_mem_zip hy).1).imp id fun q => ⟨q, PySem.W.cellsFrom_some _ _ _ (.inl q)⟩) fun env he s1 x => ⟨nl.keeps x.toInCall.keep, codeAny_func ?_⟩
  subst he
  obtain ⟨t, ht, hq⟩ := hbody cdv A outer s H vs Q E (hr.deeper _) hsp
  have I := inv_start (CX := CX0) (w := w) (E := E) S hr.hd e0 hl r x
  refine wpAny_mono (ht.nox.run [] s1 (start N vs) H _ I hq) (fun fl s' hs => ?_) fun _ _ hs => hs
  match fl, hs with
  | .ret u, ⟨v, σ', H', J, rv, q⟩ => exact ⟨v, H', J.os, J.bare, J.base, J.hok, rv, q⟩
  | .next, ⟨σ', H', J, q⟩ => exact ⟨V.non, H', J.os, J.bare, J.base, J.hok, rfl, q⟩
  | .brk, ⟨_, _, _, q⟩ => exact False.elim q
  | .cont, ⟨_, _, _, q⟩ => exact False.elim q
end

/-! ### iter(..) of a tuple -/
def tiObj (t : Addr) : Obj := { cls := .type "tuple_iterator", data := .fields #[.ref t, .int 0 0] }
/-- at it the iterator of the tuple at t, at its beginning -/
def TitO (t it : Addr) : HO := .ext fun h => h.get? it = some (tiObj t)
theorem titO_ok {P : Program} {w : World} {H : Hp} {h : Heap} {t it : Addr} (e : h.get? it = some (tiObj t)) : ObjOk P w H h it (TitO t it) := ⟨e, ⟨_, e⟩, fun _ _ q k => k _ q⟩
theorem titO_get {X : Cx} {pins : List (Addr × Obj)} {σ : L2.St} {H : Hp} {s : Shared} {t it : Addr} (I : Inv X pins σ H s) (e : H it = some (TitO t it)) : s.heap.get? it = some (tiObj t) := (I.hok it _ e).1
def rIterT (K : PySem.W.Frag) (n : Nat) : List V → Hp → VK → Prop := fun xs H Q => ∃ (t : Addr) (zs : List V), xs = [.ref t] ∧ SqT K H t zs ∧ ∀ it, H it = none → n ≤ it → Q (.ref it) (upd H it (TitO t it))
theorem run_iterT {prog : Program} {w : World} {A : Around} {E : Value → Shared → Prop} {s : Shared} {t : Addr} {items : Array Value} {Q : Value → Shared → Prop} (ht : s.heap.IsTuple t items) (h : Q (.ref s.heap.objs.size) { s with heap := s.heap.push (tiObj t) }) : wpAny (model prog w) A (call (.builtin "iter") [.ref t]) Q E s := by
  refine Calls.call_function_entry (by decide +kernel) (by decide +kernel) PySem.W.kdk_entry_iter (PySem.W.kdk_args_iter _) ?_
  unfold Builtin.«iter»
  refine wpAny_bind (m := someArgs "iter" 1 2 _) (wpAny_of_eq (a := [Value.ref t]) (by first | rfl | kernel_rfl!) ?_)
  exact wpAny_bind (wpAny_pyIter_tuple ht (wpAny_pure ⟨_, rfl, h⟩))
theorem call_iterT {X : Cx} : CallR X (.builtin "iter") (rIterT X.K X.s_0.heap.objs.size) := by
  intro pins s σ H xs us Q I r h
  obtain ⟨t, zs, rfl, hq, q⟩ := h
  obtain rfl := Vals.ref1 r
  obtain ⟨its, rv, p, hz⟩ := I.tuple hq
  refine run_iterT (show s.heap.IsTuple t its.toArray from p) ?_
  exact ⟨.ref s.heap.objs.size, _, I.laid (t' := s.toks) (fun b u e => Heap.get?_push_of_some _ e) (Nat.le_refl _) (titO_ok (Heap.get?_push_size _ rfl)), rfl, q _ (I.hok.fresh (Nat.le_refl _)) I.sz⟩
theorem iterTK {X : Cx} (K : PySem.W.Frag) (n : Nat) (h : X.K = K := by rfl) (hn : X.s_0.heap.objs.size = n := by rfl) : CallR X (.builtin "iter") (rIterT K n) := h ▸ hn ▸ call_iterT

/-! ### for x in a, a of the class at C -/
structure OitC (K : PySem.W.Frag) (C f : Addr) : Prop where
  at_ : PySem.W.findIn K (.ref C) "__iter__" = some (some (.ref f))
  fn : PySem.W.isFn K (.ref f) = true
/-- behind the call the iterator is forgotten -/
def iOwnT (K : PySem.W.Frag) (C : Addr) (sp : Nat → Sp) (n : Nat) (E : XK) (te : TE) : TI := fun σ H R => te σ H fun x H1 => ∃ a dx fs, x = .ref a ∧ H1 a = some (.ins C dx fs) ∧ ∀ m, n ≤ m → sp m [.ref a] H1 (fun v H2 => ∃ t it, v = .ref it ∧ H2 it = some (TitO t it) ∧ n ≤ it ∧ R (Itt K t) (ItX.dropH H2 it)) E
theorem pi_ownT {X : Cx} {CX : CXT} {k : Nat} {C f : Addr} {sp : Nat → Sp} {E : XK} {tg e : Expr} {te : TE} (c : OitC X.K C f) (F : FnS X.prog X.w X.K X.mg X.base CX k f sp) (hr : Room k X.A) (hx : Passes CX X E) (he : PE X e te) : PI X tg e (iOwnT X.K C sp X.s_0.heap.objs.size E te) := by
  refine ⟨fun pins s σ H R I h => ?_⟩
  refine thn (he.run pins s σ H _ I h) fun v s1 ⟨x, H1, I1, r1, a, dx, fs, ex, ea, q⟩ => ?_
  subst ex
  obtain rfl : v = Value.ref a := r1
  obtain ⟨m, fr⟩ := I1.fr
  obtain ⟨mA, O, _⟩ := ins_get I1.hok ea
  obtain ⟨od, J, _⟩ := O.look
  refine PySem.W.owit_iter fr I1.ok.mod.kin J c.at_ c.fn ?_
  refine wpAny_call (codeAny_mono (F X.A X.stack s1 H1 [.ref a] [.ref a] _ E hr I1.env0 (.cons rfl .nil) (q _ I1.sz)) fun r s' hq => ?_)
  match r, hq with
  | .error e, hq => exact hx pins σ H1 s1 e s' I1 hq
  | .ok (.ret u), hq =>
    obtain ⟨w', H2, I2, rw', t, it, rfl, hi, hn, hR⟩ := I1.after hq
    obtain rfl : u = Value.ref it := rw'
    have eo := titO_get I2 hi
    have hi' := hi
    unfold TitO at hi'
    have LT : PySem.W.Looks (model X.prog X.w) s'.heap (typeOf (.ref it)) (.type "tuple_iterator") := (PySem.W.Looks.ld (part := none) eo).andThen .now
    have LN : PySem.W.Looks (model X.prog X.w) s'.heap (specialOf (.ref it) (Str.ofString "__next__")) (some (.builtin "tuple_iterator.__next__")) := LT.andThen (PySem.W.Looks.of_pure slot_tupleiter_next.lookup)
    refine LN.here ?_
    refine ⟨it, [it], _, _, ItX.dropH H2 it, rfl, ItX.inv_drop I2 hi', turn_tuple t it, ⟨_, eo, rfl, rfl⟩, fun b hb => ?_, hR⟩
    have e : b = it := by simpa using hb
    rw [e]
    exact ItX.inv_fp I2 hi hn
  | .ok .next, hq => exact False.elim hq
  | .ok .brk, hq => exact False.elim hq
  | .ok .cont, hq => exact False.elim hq
end El

set_option Elab.async false
set_option linter.all false
set_option maxRecDepth 100000
set_option maxHeartbeats 4000000
/-! Own words: len(set(t)) of a tuple of any number of texts. -/
namespace El
open PySem PySem.Spec PyProof.Rows L2
/-- among the first i texts -/
def Has (xs : List Str) (i : Nat) : Str → Bool := fun y => (xs.take i).any (· == y)
/-- c different ones among the first i, as far as it is asked -/
def Cnt (xs : List Str) (i c : Nat) : Prop := c ≤ i ∧ (c = i ↔ (xs.take i).Nodup)
theorem has_iff {xs : List Str} {i : Nat} {y : Str} : Has xs i y = true ↔ y ∈ xs.take i := by
  unfold Has
  rw [List.any_eq_true]
  constructor
  · rintro ⟨z, hz, e⟩
    rw [beq_iff_eq] at e
    exact e ▸ hz
  · intro h
    exact ⟨y, h, beq_iff_eq.mpr rfl⟩
theorem take_more {xs : List Str} {i : Nat} {x : Str} (e : xs[i]? = some x) : xs.take (i + 1) = xs.take i ++ [x] := by rw [List.take_add_one, e]; rfl
theorem Cnt.nil (xs : List Str) : Cnt xs 0 0 := ⟨Nat.le_refl _, by simp⟩
theorem Cnt.more {xs : List Str} {i c : Nat} {x : Str} (h : Cnt xs i c) (e : xs[i]? = some x) : Cnt xs (i + 1) (if Has xs i x = true then c else c + 1) := by
  obtain ⟨h1, h2⟩ := h
  have hn : (xs.take (i + 1)).Nodup ↔ (xs.take i).Nodup ∧ x ∉ xs.take i := by
    rw [take_more e, List.nodup_append]
    constructor
    · rintro ⟨a, -, b⟩
      exact ⟨a, fun hx => b x hx x (List.mem_singleton.mpr rfl) rfl⟩
    · rintro ⟨a, b⟩
      refine ⟨a, by simp, fun y hy z hz => ?_⟩
      rw [List.mem_singleton] at hz
      intro q
      exact b (hz ▸ q ▸ hy)
  unfold Cnt
  rw [hn]
  by_cases q : Has xs i x = true
  · rw [if_pos q]
    refine ⟨by omega, ⟨fun z => absurd z (by omega), fun z => absurd (has_iff.mp q) z.2⟩⟩
  · rw [if_neg q]
    refine ⟨by omega, ⟨fun z => ⟨h2.mp (by omega), fun y => q (has_iff.mpr y)⟩, fun z => by rw [h2.mpr z.1]⟩⟩
section
variable {prog : Program} {w : World} {A : Around} {R : Result → Shared → Prop} {it : Addr} {fp wr : List Addr} {G : Array GenState → Array GenState → Prop} {n : Nat} {Pv : Nat → Value → Prop} {St : Nat → Shared → Prop}
theorem loopTx (W : WalksS prog w A.in1 it fp wr G n Pv St) (b : Addr) (hb : b ∉ fp) (xs : List Str) (hn : xs.length = n) (hs : n + 1 < scanBound) (hv : ∀ i v, Pv i v → ∃ t, v = .str (xs.getD i Str.empty) t) :
    ∀ (k i : Nat) (s : Shared), n - i = k → i ≤ n → St i s → (∃ c, Cnt xs i c ∧ s.heap.SetOf (PySem.strKind prog w) b (Has xs i) c) →
      (∀ s' c, Moved (b :: wr) G s s' → Cnt xs n c → s'.heap.SetOf (PySem.strKind prog w) b (Has xs n) c → R (.ok (.ret .none)) s') →
      codeAny (model prog w) A (.builtin "set.update.loop" ⟨[.ref b, .ref it], []⟩) R s := by
  have hbw : b ∉ wr := fun h => hb (W.sub _ h)
  have wsub : ∀ q ∈ wr, q ∈ b :: wr := fun q hq => List.mem_cons_of_mem _ hq
  intro k
  induction k with
  | zero =>
    rintro i s hk hi st ⟨c, hc, ho⟩ done
    obtain rfl : i = n := by omega
    refine codeAny_builtin PyProof.Rows.F.entry_set_update_loop ?_
    rw [Around.under_plainId PyProof.Rows.F.plain_set_update_loop _]
    refine wpAny_bind (m := pyNext (.ref it)) (W.done s _ _ st fun s1 mv => ?_)
    refine wpAny_pure (done s1 c (mv.mono wsub) hc ?_)
    obtain ⟨o, es, ep, tb, e, more⟩ := ho
    exact ⟨o, es, ep, tb, mv.heap b _ hbw e, more⟩
  | succ k ih =>
    rintro i s hk hi st ⟨c, hc, ho⟩ done
    have lt : i < n := by omega
    refine codeAny_builtin PyProof.Rows.F.entry_set_update_loop ?_
    rw [Around.under_plainId PyProof.Rows.F.plain_set_update_loop _]
    refine wpAny_bind (m := pyNext (.ref it)) (W.item i s _ _ lt st fun v s1 pv st1 mv => ?_)
    obtain ⟨t, rfl⟩ := hv i v pv
    have ei : xs[i]? = some (xs.getD i Str.empty) := by
      rw [List.getD_eq_getElem?_getD, List.getElem?_eq_getElem (by omega)]; rfl
    have ho1 : s1.heap.SetOf (PySem.strKind prog w) b (Has xs i) c := by
      obtain ⟨o, es, ep, tb, e, more⟩ := ho
      exact ⟨o, es, ep, tb, mv.heap b _ hbw e, more⟩
    refine wpAny_bind (m := holding [Value.str (xs.getD i Str.empty) t] (setAdd b (.str (xs.getD i Str.empty) t))) (wpAny_holding ?_)
    unfold setAdd
    refine wpAny_holding (wpAny_bind ((PySem.strKind prog w).pyHash (strKind_is _ _ _ _) ?_))
    have hlt : c + 1 < scanBound := by have := hc.1; omega
    refine wpAny_setAddHashed_of (knd := PySem.strKind prog w) (s := { s1 with toks := s1.toks + 1 }) (strKind_is _ _ _ _) rfl ho1 hlt fun h' same ho2 => ?_
    have ho3 : h'.SetOf (PySem.strKind prog w) b (Has xs (i + 1)) (if Has xs i (xs.getD i Str.empty) = true then c else c + 1) := by
      refine SetOf_congr ho2 (fun y => ?_) rfl
      rw [Bool.eq_iff_iff, has_iff, take_more ei, List.mem_append, List.mem_singleton, Bool.or_eq_true, has_iff, decide_eq_true_iff]
    refine wpAny_pure ⟨plainId_quiet PyProof.Rows.F.plain_set_update_loop _, ih (i + 1) _ (by omega) lt (W.frame _ s1 _ _ st1 (Nat.le_succ _) fun q hq o e => ?_) ⟨_, hc.more ei, ho3⟩ fun s2 c2 mv2 hc2 hS2 => ?_⟩
    · exact (same.2 q fun z => hb (z ▸ hq)).trans e
    · refine done s2 c2 (Moved.trans W.gtrans ((mv.mono wsub).then_heap (Nat.le_succ _) fun q o hq e => ?_) mv2) hc2 hS2
      exact (same.2 q fun z => hq (z ▸ List.mem_cons_self)).trans e
end
/-- a new set's object -/
def setObj (led : Bool) : Obj := { cls := .type "set", dict := none, data := .set #[] 0 (.fresh 0 0 led) }
section
variable {prog : Program} {w : World} {A : Around} {E : Value → Shared → Prop} {s : Shared}
/-- what set.__init__ does to a new set with a tuple of texts -/
theorem init_tx {l : Addr} {items : Array Value} {xs : List Str} {led : Bool} (hh : A.handled = none) (hl : s.heap.IsTuple l items) (hi : PyProof.Rows.StrsAre items.toList xs) (hx : xs.length + 1 < scanBound) :
    codeAny (model prog w) A (.call (.builtin "set.__init__") ⟨[.ref s.heap.objs.size, .ref l], []⟩)
      (wants (fun r s2 => r = .none ∧ ∃ h' tk c, s2 = { s with heap := h', toks := tk } ∧ Cnt xs xs.length c ∧ h'.SetOf (PySem.strKind prog w) s.heap.objs.size (Has xs xs.length) c ∧ (∀ q o, s.heap.get? q = some o → h'.get? q = some o)) E)
      { s with heap := s.heap.push (setObj led) } := by
  have hT : Shared.TypeIs { s with heap := s.heap.push (setObj led) } (.ref s.heap.objs.size) "set" := ⟨_, Heap.get?_push_size _ rfl, rfl⟩
  refine codeAny_call_builtin PySem.F.called_set.init.plain PySem.F.entry_set_init (check_set_init_1 hT ?_)
  obtain ⟨⟨kc, kd, kx, ks⟩, hol, hcl, nl, hdl⟩ := hl
  simp only at hcl hdl
  subst hcl hdl
  have hol' : (s.heap.push (setObj led)).get? l = some _ := Heap.get?_push_of_some _ hol
  have hl1 : (s.heap.push (setObj led)).IsTuple l items := ⟨_, hol', rfl, nl, rfl⟩
  have hsls := PySem.F.sub_tuple_set
  have hslf := PySem.F.sub_tuple_frozenset
  have hne : (Value.type "tuple" == Value.type "dict") = false := by decide
  unfold Builtin.«set.__init__» noKeywords Builtin.Frozenset.updateFrom
  generalize ePI : pyIter = PI
  wp_walk
  subst ePI
  refine wpAny_pyIter_tuple hl1 (wpAny_bind (wpAny_runValue ?_))
  have below : l < s.heap.objs.size := Heap.lt_size hol
  have nh : A.in1.in1.handled = none := by simp [hh]
  have z1 : (s.heap.push (setObj led)).objs.size = s.heap.objs.size + 1 := Heap.size_push ..
  have apart : l ≠ (s.heap.push (setObj led)).objs.size := by
    rw [z1]
    exact Nat.ne_of_lt (Nat.lt_succ_of_lt below)
  have out : s.heap.objs.size ∉ [(s.heap.push (setObj led)).objs.size, l] := by
    rw [List.mem_cons, List.mem_singleton, z1]
    exact fun q => q.elim (Nat.ne_of_lt (Nat.lt_succ_self _)) (Nat.ne_of_gt below)
  have zx : xs.length = items.size := by rw [← StrsAre.len_eq hi, Array.length_toList]
  refine loopTx ((Walks.tuple nh _ l apart items).toS) s.heap.objs.size out xs zx (zx ▸ hx) (fun i v e => SS.strs_at hi i v (Array.getElem?_toList ▸ e)) (items.size - 0) 0 _ (by omega) (Nat.zero_le _) ?at_ ?first ?last
  case at_ => exact ⟨⟨_, Heap.get?_push_size _ rfl, rfl, rfl⟩, hl1.push _⟩
  case first =>
    refine ⟨0, Cnt.nil xs, ?_⟩
    refine SetOf_congr ((PyProof.Rows.setObjOf_fresh (knd := PySem.strKind prog w) led).setOf (Heap.get?_push_of_some _ (Heap.get?_push_size _ rfl)) (by unfold scanBound; omega)) (fun y => ?_) rfl
    rfl
  case last =>
    rintro ⟨h', g', d', tk', os'⟩ c mv hc ho
    obtain rfl : g' = s.gens := mv.gens
    obtain rfl : d' = s.drawn := mv.drawn
    obtain rfl : os' = s.os := mv.os
    refine wpAny_pure (wpAny_pure ⟨rfl, h', tk', c, rfl, zx ▸ hc, zx ▸ ho, fun q o e => ?_⟩)
    have lq := Heap.lt_size e
    refine mv.heap q o (by rw [List.mem_cons, List.mem_singleton, z1]; exact fun z => z.elim (Nat.ne_of_lt lq) (Nat.ne_of_lt (Nat.lt_succ_of_lt lq))) (Heap.get?_push_of_some _ (Heap.get?_push_of_some _ e))
set_option maxHeartbeats 8000000 in
theorem call_set_tx {l : Addr} {items : Array Value} {xs : List Str} {Q : Value → Shared → Prop} (hh : A.handled = none) (hl : s.heap.IsTuple l items) (hi : PyProof.Rows.StrsAre items.toList xs) (hx : xs.length + 1 < scanBound)
    (h : ∀ (h' : Heap) (tk c : Nat), Cnt xs xs.length c → h'.SetOf (PySem.strKind prog w) s.heap.objs.size (Has xs xs.length) c → (∀ q o, s.heap.get? q = some o → h'.get? q = some o) → Q (.ref s.heap.objs.size) { s with heap := h', toks := tk }) :
    wpAny (model prog w) A (call (.type "set") [.ref l]) Q E s := by
  obtain ⟨_, _, hmro⟩ := PySem.F.called_set.mro
  have hmade := PySem.F.called_set.made
  have hsub := PySem.F.called_set.sub
  have h1 := PySem.F.called_set.notType
  have h2 := PySem.F.called_set.canCreate
  have hct := PySem.F.typeCall_set_1 (.ref l)
  refine wpAny_call (codeAny_of_tree (wpAny_pure (a := _) ⟨Code.quiet_builtin _ (by decide +kernel), codeAny_builtin PySem.F.entry_type_call ?_⟩))
  rw [Around.under_plain (weight_type_call_type "set" [.ref l] []) rfl]
  repeat (any_goals (first | assumption | wp_step))
  refine codeAny_mono (code_set_new_1 (.ref l) (E := E) (Q₁ := fun v s1 => ∃ led, v = .ref s.heap.objs.size ∧ s1 = { s with heap := s.heap.push (setObj led) }) fun led => ⟨led, rfl, rfl⟩) fun r s1 hr => ?_
  match r, hr with
  | .ok (.ret v), hr =>
    obtain ⟨led, rfl, rfl⟩ := hr
    have hS : (s.heap.push (setObj led)).get? s.heap.objs.size = some (setObj led) := Heap.get?_push_size _ rfl
    have hT : Shared.TypeIs { s with heap := s.heap.push (setObj led) } (.ref s.heap.objs.size) "set" := ⟨_, hS, rfl⟩
    have hli := PySem.F.called_set.init.lookup
    have hbi := PySem.F.called_set.init.bind (.ref s.heap.objs.size)
    repeat (any_goals (first | assumption | wp_step))
    refine codeAny_mono (init_tx (E := E) (by simp [hh]) hl hi hx) fun r s2 hr => ?_
    match r, hr with
    | .ok (.ret v), hr =>
      obtain ⟨rfl, h', tk, c, rfl, hc, ho, keep⟩ := hr
      repeat (any_goals (first | assumption | wp_step))
      exact h h' tk c hc ho keep
    | .error e, hr => exact hr
    | .ok .next, hr => exact hr.elim
    | .ok .brk, hr => exact hr.elim
    | .ok .cont, hr => exact hr.elim
  | .error e, hr => exact hr
  | .ok .next, hr => exact hr.elim
  | .ok .brk, hr => exact hr.elim
  | .ok .cont, hr => exact hr.elim
end
/-- len(set(t)), t a tuple of texts: how many different ones, so far as it matters here -/
def tLenSetTx (K : PySem.W.Frag) (ta : TE) : TE := fun σ H Q => ta σ H fun x H1 => ∃ (l : Addr) (xs : List Str), x = .ref l ∧ SqT K H1 l (xs.map V.str) ∧ xs.length < 64 ∧ ∀ c : Nat, c ≤ xs.length → (c = xs.length ↔ xs.Nodup) → Q (.int c) H1
theorem pe_lenSetTx {X : Cx} {a : Expr} {ta : TE} {p p2 q pos : Pos} (hg : Gl X "len") (hm : X.mg "len" = none) (hg2 : Gl X "set") (hm2 : X.mg "set" = none) (ha : PE X a ta) (hc : X.calm = true := by rfl)
    (na : starEach [a] X.env = (false, eval a X.env) :: starEach [] X.env := by rfl) : PE X (.Call (.Name "len" p) [.Call (.Name "set" p2) [a] [] q] [] pos) (tLenSetTx X.K ta) := by
  refine ⟨fun pins s σ H Q I h => Call_ (ld_blt I hg hm boot_len (PyProof.Rows.callWith_builtin1 (PyProof.Rows.args_cons (Call_ (ld_blt I hg2 hm2 boot_set (PyProof.Rows.callWith_type1 (PyProof.Rows.args_cons (thn (ha.run pins s σ H _ I h) fun v s1 ⟨x, H1, I1, r1, q1⟩ => PyProof.Rows.args_nil ?_) na) na rfl))) rfl) rfl rfl))⟩
  obtain ⟨l, xs, rfl, ht, few, q1⟩ := q1
  obtain rfl : v = Value.ref l := r1
  obtain ⟨its, rv, pl, _⟩ := I1.tuple ht
  refine call_set_tx (I1.ok.hd hc) pl (by simpa using strsAre_of rv) (by unfold scanBound; omega) fun h' tk c hcn hS keep => PyProof.Rows.args_nil ?_
  obtain ⟨o, es, ep, tb, ho, hex, hd, _, _, _, hf, hn⟩ := hS
  have I2 : Inv X pins σ H1 { s1 with heap := h', toks := tk } := I1.kept keep
  obtain ⟨c1, c2⟩ := hcn
  rw [List.take_length] at c2
  exact call_len_set ho hex hd hf (by rw [hn]; omega) ⟨.int c, H1, I2.tok _, ⟨_, by rw [hn]⟩, q1 c c1 c2⟩
end El

set_option Elab.async false
set_option linter.all false
set_option maxRecDepth 100000
set_option maxHeartbeats 4000000
/-! Own words: enumerate(t) of a tuple. -/
namespace El
open PySem PySem.Spec PyProof.Rows L2
open AutoSeq1 (wpAny_loadPart')
/-- the tuple at a, each item in a new pair with its place -/
def IteT (K : PySem.W.Frag) (a : Addr) : It where
  go := fun i H => ∃ (xs : List V) (x : V), SqT K H a xs ∧ xs[i]? = some x
  yld := fun i H v H' => ∃ T x, v = .ref T ∧ H T = none ∧ H' = upd H T (.tup [.int (i : Nat), x]) ∧ ∀ xs, SqT K H a xs → xs[i]? = some x
  stop := fun i H => ∃ xs : List V, SqT K H a xs ∧ xs.length ≤ i
theorem walk_enumT {K : PySem.W.Frag} {a : Addr} {xs : List V} : Walk (IteT K a) xs.length (fun H => SqT K H a xs) (YPair (fun i => some (.int (i : Nat))) (fun i => xs[i]?)) where
  goes := fun i _ hi q => ⟨xs, xs[i], q, by simp [hi]⟩
  stops := fun _ q => ⟨xs, q, Nat.le_refl _⟩
  yields := fun i H v H' _ q y => by
    obtain ⟨T, x, h1, h2, h3, h4⟩ := y
    exact ⟨T, .int (i : Nat), x, h1, h2, h3, rfl, h4 xs q⟩
/-- the object of an enumerate over it, at its beginning -/
def enObj (it : Addr) : Obj := { cls := .type "enumerate", data := .fields #[.none, .bool false, .ref it, rawInt 0, .none, .none] }
theorem enum_newT (t : Addr) (items : Array Value) (n : Nat) (dct : Option Addr) (sl : Array (Option Value)) :
    Meets (Builtin.«enumerate.__new__» ⟨[.type "enumerate", .ref t], []⟩) (fun _ R s => s.heap.get? t = some ⟨.type "tuple", dct, .seq items n, sl⟩ ∧ R (.ok (.ret (.ref (s.heap.push (tiObj t)).objs.size))) { s with heap := (s.heap.push (tiObj t)).push (enObj s.heap.objs.size) }) :=
  .of_wp fun prog w A R s h => by
    obtain ⟨hp, g, d, tk, os⟩ := s
    obtain ⟨ht, h⟩ := h
    have hsub := sub_enumerate
    have hT : Heap.IsTuple (Shared.heap ⟨hp, g, d, tk, os⟩) t items := ⟨_, ht, rfl, n, rfl⟩
    wp_walk using wpAny_loadPart' ht
    refine wpAny_stack_any fun st => wpAny_pure ?_
    split
    · rename_i c _ _ _ _ _
      cases (c == Value.type "enumerate") <;> (wp_walk using wpAny_loadPart' ht, wpAny_pyIter_tuple hT; exact ⟨_, rfl, h⟩)
    · wp_walk using wpAny_loadPart' ht, wpAny_pyIter_tuple hT
      exact ⟨_, rfl, h⟩
section
variable {prog : Program} {w : World} {A : Around} {E : Value → Shared → Prop} {s : Shared}
theorem call_enumT {t : Addr} {items : Array Value} {Q : Value → Shared → Prop} (hT : s.heap.IsTuple t items)
    (h : ∀ h', IsEnum h' (s.heap.objs.size + 1) s.heap.objs.size 0 .none → h'.IsTupleIter s.heap.objs.size t 0 → (∀ b o, s.heap.get? b = some o → h'.get? b = some o) → Q (.ref (s.heap.objs.size + 1)) { s with heap := h' }) :
    wpAny (model prog w) A (call (.type "enumerate") [.ref t]) Q E s := by
  obtain ⟨⟨c, dct, dt, sl⟩, ht, hc, n, hd⟩ := hT
  simp only at hc hd
  subst hc hd
  refine callType_new F.called_enumerate (by decide) (F.typeCall_enumerate_1 _) (F.newCall_enumerate_1 _) (fun obj => F.args_object_init_2 obj _) F.entry_enumerate_new (enum_newT t items n dct sl) ⟨ht, ?_⟩
  have hz : (s.heap.push (tiObj t)).objs.size = s.heap.objs.size + 1 := Heap.size_push ..
  have he : IsEnum ((s.heap.push (tiObj t)).push (enObj s.heap.objs.size)) (s.heap.objs.size + 1) s.heap.objs.size 0 .none := by
    have q := Heap.get?_push_size (s.heap.push (tiObj t)) (o := enObj s.heap.objs.size) rfl
    rw [hz] at q
    exact q
  rw [hz]
  exact ⟨⟨_, he, rfl⟩, h _ he ⟨_, Heap.get?_push_of_some _ (Heap.get?_push_size _ rfl), rfl, rfl⟩ fun b o x => Heap.get?_push_of_some _ (Heap.get?_push_of_some _ x)⟩
end
theorem turn_enumT {P : Program} {w : World} {K : PySem.W.Frag} {elts : List Expr} {kk : Nat} {tpos : Pos} (t e it : Addr) (items : Array Value) :
    Turn P w K (.Tuple elts kk tpos) (IteT K t) [e, it] e (fun i h => (∃ old, IsEnum h e it ((i : Nat) : Int) old) ∧ h.IsTupleIter it t i ∧ e ≠ it ∧ t ≠ it ∧ t ≠ e) where
  mem := List.mem_cons_self
  obj := fun i h st b hb => by
    obtain ⟨⟨old, he⟩, ⟨o, ho, hc, hd⟩, _⟩ := st
    rw [List.mem_cons, List.mem_singleton] at hb
    rcases hb with z | z
    · exact z ▸ ⟨_, he, fun v q => nomatch q⟩
    · exact z ▸ ⟨o, ho, fun v q => by rw [hd] at q; cases q⟩
  keep := fun i h h' st k => by
    obtain ⟨⟨old, he⟩, hi, hne⟩ := st
    exact ⟨⟨old, k e List.mem_cons_self _ he⟩, hi.at fun o q => k it (List.mem_cons_of_mem _ List.mem_cons_self) o q, hne⟩
  item := by
    intro X hP hw hK hc i pins s σ H E I hf st hg
    subst hP hw hK
    obtain ⟨⟨old, he⟩, hit, hne, n1, n2⟩ := st
    obtain ⟨xs, x, hq, hx⟩ := hg
    obtain ⟨its, rv, p, hz⟩ := I.tuple hq
    obtain ⟨u, hu, ru⟩ := rv.get hx
    have lt : i < its.toArray.size := by
      have := (List.getElem?_eq_some_iff.mp hu).1
      simpa using this
    have le : e < s.heap.objs.size := Heap.lt_size he
    have li : it < s.heap.objs.size := by obtain ⟨_, q, _⟩ := hit; exact Heap.lt_size q
    have nf : e ∉ [it, t] := by
      rw [List.mem_cons, List.mem_singleton]
      exact fun z => z.elim hne fun z => n2 z.symm
    refine wpAny_pyNext_enum_itemD (Draws.tuple (A := X.A.in1) (by simpa using I.ok.hd hc) it t n1 its.toArray) he ⟨hit, p⟩ lt hne nf fun v h' tk hv ho hit' hT hsz hk => ?_
    obtain rfl : v = u := by
      have e1 : its.toArray[i]? = some u := by simpa using hu
      exact Option.some.inj (hv.symm.trans e1)
    refine ⟨_, rfl, wpAny_letOwnedTupleGo_enum (s := { s with heap := h', toks := tk + 1 }) ho fun h'' he' sb => ?_⟩
    have hT2 := (sb.2 _ (Nat.ne_of_gt le)).trans hT
    have new : ObjOk X.prog X.w (upd H s.heap.objs.size (.tup [.int (i : Nat), x])) h'' s.heap.objs.size (.tup [.int (i : Nat), x]) :=
      ⟨by show 2 ≤ sizeLine; decide, [.int i tk, v], .cons ⟨_, rfl⟩ (.cons ru .nil), ⟨_, hT2, rfl, _, rfl⟩⟩
    have I1 : Inv X pins σ (upd H s.heap.objs.size (.tup [.int (i : Nat), x])) { s with heap := h'', toks := tk + 1 } := by
      refine I.turnedNew (ch := [e, it]) (fun b ob hb q => ?_) hf (Nat.le_refl _) new
      rw [List.mem_cons, List.mem_singleton, not_or] at hb
      exact (sb.2 b hb.1).trans (hk b ob hb.1 hb.2 q)
    refine ⟨.ref s.heap.objs.size, _, I1, rfl, ⟨_, x, rfl, I.hok.fresh (Nat.le_refl _), rfl, fun ys hy => by rw [I.tuple_inj hy hq]; exact hx⟩, ⟨⟨v, ?_⟩, hit'.1.at fun o q => (sb.2 it (Ne.symm hne)).trans q, hne, n1, n2⟩, fun b hb => ?_⟩
    · have e1 : ((i + 1 : Nat) : Int) = (i : Int) + 1 := by omega
      rw [e1]
      exact he'
    · have lb : b < s.heap.objs.size := by
        rw [List.mem_cons, List.mem_singleton] at hb
        rcases hb with z | z
        · rw [z]; exact le
        · rw [z]; exact li
      rw [upd_ne (Nat.ne_of_lt lb)]
      exact (hf b hb).1
  done := by
    intro X hP hw hK hc i pins s σ H E I hf st hg
    subst hP hw hK
    obtain ⟨⟨old, he⟩, hit, hne, n1, n2⟩ := st
    obtain ⟨xs, hq, hx⟩ := hg
    obtain ⟨its, rv, p, hz⟩ := I.tuple hq
    obtain ⟨f0, f1, f2, f3, f4, f5⟩ := hf it (List.mem_cons_of_mem _ List.mem_cons_self)
    have none_ : its.toArray[i]? = none := by
      have hl := rv.length
      simp
      omega
    have D : Draws X.prog X.w X.A.in1 it [it, t] 0 (fun _ _ => False) (fun _ h => h.IsTupleIter it t i ∧ h.IsTuple t its.toArray) :=
      { live := fun _ _ st => let ⟨o, ho, _⟩ := st.1; ⟨o, ho⟩
        frame := fun _ _ _ st hk => ⟨st.1.at fun o e => hk it List.mem_cons_self o e, st.2.at fun o e => hk t (List.mem_cons_of_mem _ List.mem_cons_self) o e⟩
        item := fun _ _ _ _ z => absurd z (Nat.not_lt_zero _)
        done := fun s Q E st hE => wpAny_nextOf_tuple_end (by simpa using I.ok.hd hc) st.1 st.2 none_ hE }
    exact wpAny_pyNext_enum_endD D he ⟨hit, p⟩ fun h' eb => ⟨rfl, I.turned (t' := s.toks) (fun b o hb q => eb b o hb q) f0 f1 f3 f4 f5⟩
  self := fun A i s Q E st h => by
    obtain ⟨⟨_, he⟩, _⟩ := st
    exact wpAny_pyIter_enum he h
def iEnumT (K : PySem.W.Frag) (ta : TA) : TI := fun σ H R => ta σ H fun vs H1 => ∃ a xs, vs = [.ref a] ∧ SqT K H1 a xs ∧ R (IteT K a) H1
theorem pi_enumT {X : Cx} {e : Expr} {ta : TA} {p pos tpos : Pos} {elts : List Expr} {kk : Nat} (hg : Gl X "enumerate") (hm : X.mg "enumerate" = none) (ha : PA X [e] ta) (hs : starEach [e] X.env = [(false, eval e X.env)] := by rfl) :
    PI X (.Tuple elts kk tpos) (.Call (.Name "enumerate" p) [e] [] pos) (iEnumT X.K ta) := by
  refine ⟨fun pins s σ H R I h => Call_ (ld_blt I hg hm boot_enumerate (PyProof.Rows.callWith_type1 (thn (ha.run pos pins s σ H _ I h) fun us s1 ⟨vs, H1, I1, r1, a, xs, ex, hq, q⟩ => ?_) hs rfl))⟩
  subst ex
  obtain rfl := Vals.ref1 r1
  obtain ⟨its, rv, pt, hz⟩ := I1.tuple hq
  have la : a < s1.heap.objs.size := by obtain ⟨o, ho, _⟩ := pt; exact Heap.lt_size ho
  refine call_enumT pt fun h' he hit hk => wpAny_pyIter_enum he ?_
  refine ⟨s1.heap.objs.size + 1, [s1.heap.objs.size + 1, s1.heap.objs.size], _, _, H1, rfl, I1.kept (t' := s1.toks) hk, turn_enumT a (s1.heap.objs.size + 1) s1.heap.objs.size its.toArray, ⟨⟨.none, he⟩, hit, Nat.succ_ne_self _, Nat.ne_of_lt la, Nat.ne_of_lt (Nat.lt_succ_of_lt la)⟩, fun b hb => ?_, q⟩
  have hle : s1.heap.objs.size ≤ b := by
    rw [List.mem_cons, List.mem_singleton] at hb
    rcases hb with z | z
    · exact z ▸ Nat.le_succ _
    · exact z ▸ Nat.le_refl _
  exact I1.fpOk hle (I1.hok.fresh hle)
end El

set_option Elab.async false
set_option linter.all false
set_option maxRecDepth 100000
set_option maxHeartbeats 4000000
/-! Own words: a list or a tuple walked; own classes made, read by [..] inside a try; own exceptions without arguments. -/
namespace El
open PySem PySem.Spec PyProof.Rows L2 NdefX
section
variable {X : Cx} {tg l : Expr} {tl : TE}
def iSeq (K : PySem.W.Frag) (tl : TE) : TI := fun σ H R => tl σ H fun x H1 => ∃ a xs, x = .ref a ∧ ((SqL K H1 a xs ∧ R (Itl K a) H1) ∨ (SqT K H1 a xs ∧ R (Itt K a) H1))
theorem pi_seq (hl : PE X l tl) : PI X tg l (iSeq X.K tl) := by
  refine ⟨fun pins s σ H R I h => thn (hl.run pins s σ H _ I h) fun v s1 ⟨x, H1, I1, r1, a, xs, ex, q⟩ => ?_⟩
  subst ex
  obtain rfl : v = Value.ref a := r1
  have new : ∀ b ∈ [s1.heap.objs.size], FpOk X pins H1 b := fun b hb => by
    rw [List.mem_singleton] at hb
    exact hb ▸ I1.fpOk (Nat.le_refl _) (I1.hok.fresh (Nat.le_refl _))
  rcases q with ⟨hq, q⟩ | ⟨hq, q⟩
  · obtain ⟨its, rv, p, _⟩ := I1.list hq
    exact wpAny_pyIter_list p.isList ⟨_, _, _, _, H1, rfl, I1.kept (t' := s1.toks) fun b o e => Heap.get?_push_of_some _ e, turn_list a _, ⟨_, Heap.get?_push_size _ rfl, rfl, rfl⟩, new, q⟩
  · obtain ⟨its, rv, p, _⟩ := I1.tuple hq
    exact wpAny_pyIter_tuple p ⟨_, _, _, _, H1, rfl, I1.kept (t' := s1.toks) fun b o e => Heap.get?_push_of_some _ e, turn_tuple a _, ⟨_, Heap.get?_push_size _ rfl, rfl, rfl⟩, new, q⟩
end
theorem pi_seqK {X : Cx} {tg l : Expr} {tl : TE} (K : PySem.W.Frag) (hl : PE X l tl) (h : X.K = K := by rfl) : PI X tg l (iSeq K tl) := h ▸ pi_seq hl
section
variable {X : Cx} {CX : CXT} {k : Nat} {C f : Addr} {fd : FuncData} {ps : List Str} {ds : List Value} {dvs : List V} {sp : Sp} {E : L2.St → XK} {x : Str} {p pos : Pos} {a b e : Expr} {es : List Expr} {ta tb : TE} {t : TA}
/-- C(e, ..), what its __init__ lets out being taken where it stands -/
def tMakeS (C : Addr) (sp : Sp) (E : L2.St → XK) (t : TA) : TE := fun σ H Q => t σ H fun vs H1 => ∀ x dx, H1 x = none → H1 dx = none → dx ≠ x → sp (.ref x :: vs) (upd (upd H1 dx (.own x)) x (.ins C dx [])) (fun v H2 => v = .non ∧ Q (.ref x) H2) (E σ)
theorem run_makeS {pins : List (Addr × Obj)} {σ : L2.St} {H : Hp} {s : Shared} {Q : VK} {us : List Value} {vs : List V} {E : XK} (M : Mk X.K C f) (F : FnOk X.prog X.w X.K X.mg X.base CX k f fd ps sp) (hr : Room (k + 1) X.A) (hb : Binds X.K fd ps [])
    (hx : PassesAt CX X σ E) (I : Inv X pins σ H s) (r : Vals vs us)
    (h : ∀ x dx, H x = none → H dx = none → dx ≠ x → sp (.ref x :: vs) (upd (upd H dx (.own x)) x (.ins C dx [])) (fun v H2 => v = .non ∧ Q (.ref x) H2) E) : wpAny (model X.prog X.w) X.A (call (.ref C) us) (EP X pins σ Q) X.xe s := by
  have fresh := fun n hn => I.hok.fresh (a := n) hn
  have q := h (s.heap.objs.size + 1) s.heap.objs.size (fresh _ (Nat.le_succ _)) (fresh _ (Nat.le_refl _)) (Nat.ne_of_lt (Nat.lt_succ_self _))
  have J := Inv.made (C := C) I
  have rr : Vals (V.ref (s.heap.objs.size + 1) :: vs) (Value.ref (s.heap.objs.size + 1) :: us) := .cons rfl r
  have hl : (Value.ref (s.heap.objs.size + 1) :: us ++ []).length = ps.length := by rw [List.append_nil, ← rr.length]; exact F.len _ _ _ _ q
  have bt := hb _ (Value.ref (s.heap.objs.size + 1) :: us) J.kIn hl
  rw [List.append_nil] at bt
  refine wpAny_call (make_map (f := f) I.kIn M.makes M.init (beq_iff_eq.mp M.fn) (codeAny_mono (F.run _ X.stack _ _ ⟨Value.ref (s.heap.objs.size + 1) :: us, []⟩ _ _ _ E (hr.make C us []) (J.env0.make C us []) bt rr q) fun r s' hs => ?_))
  match r, hs with
  | .error e, hs => exact hx pins _ _ e s' J hs
  | .ok (.ret u), hs =>
    obtain ⟨v, H', J', rv, ev, q'⟩ := J.after hs
    subst ev
    exact ⟨rv, V.ref (s.heap.objs.size + 1), H', J', rfl, q'⟩
  | .ok .next, hs => exact False.elim hs
  | .ok .brk, hs => exact False.elim hs
  | .ok .cont, hs => exact False.elim hs
theorem pe_makeS (M : Mk X.K C f) (F : FnOk X.prog X.w X.K X.mg X.base CX k f fd ps sp) (hr : Room (k + 1) X.A) (hg : Gl X x) (hm : X.mg x = some (.ref C)) (hb : Binds X.K fd ps []) (hx : ∀ σ, PassesAt CX X σ (E σ)) (ha : PA X (e :: es) t)
    (hdb : (x == ("__debug__" : Str)) = false := by decide) (he : starEach (e :: es) X.env = (false, eval e X.env) :: starEach es X.env := by rfl) (hpl : (backTo pos (starEach es X.env)).any (·.1) = false := by rfl) :
    PE X (.Call (.Name x p) (e :: es) [] pos) (tMakeS C sp E t) := by
  refine ⟨fun pins s σ H Q I h => wpAny_Call_Name_kw (ld_glob I hg hm ?_ hdb)⟩
  refine PySem.W.callWith_K (h₀ := X.base) I.ok.mod.kin M.kp (thn (ha.run pos pins s σ H _ I h) fun us s1 ⟨vs, H1, I1, r, q⟩ => ⟨I1.kIn, ?_⟩) he hpl
  exact run_makeS M F hr hb (hx σ) I1 r q
/-- an own class's `__getitem__`, as it is read by [..] -/
structure SubC (K : PySem.W.Frag) (C f : Addr) : Prop where
  at_ : PySem.W.findIn K (.ref C) "__getitem__" = some (some (.ref f))
  fn : PySem.W.isFn K (.ref f) = true
  fi : PySem.W.fnIn K f = true
/-- a[y], a of the class at C, what it lets out being taken where it stands -/
def tItS (C : Addr) (sp : Sp) (E : L2.St → XK) (ta tb : TE) : TE := fun σ H Q => ta σ H fun x H1 => tb σ H1 fun y H2 => ∃ a dx fs, x = .ref a ∧ H2 a = some (.ins C dx fs) ∧ sp [.ref a, y] H2 Q (E σ)
theorem pe_itS (c : SubC X.K C f) (F : FnOk X.prog X.w X.K X.mg X.base CX k f fd ps sp) (hr : Room (k + 1) X.A) (hb : Binds X.K fd ps []) (hx : ∀ σ, PassesAt CX X σ (E σ)) (ha : PE X a ta) (hb2 : PE X b tb)
    (hs : ∀ o i, subscripted b true o i = runValue (.builtin "lifetime.subscript" ⟨[o, i], []⟩) := by intro _ _; rfl) : PE X (.Subscript a b pos) (tItS C sp E ta tb) := by
  refine ⟨fun pins s σ H Q I h => Subscript_ (binT ha hb2 I (R := fun x y H2 => ∃ a dx fs, x = .ref a ∧ H2 a = some (.ins C dx fs) ∧ sp [.ref a, y] H2 Q (E σ)) h fun v u s2 x y H2 I2 rx ry q => ?_)⟩
  obtain ⟨a, dx, fs, rfl, ea, q⟩ := q
  obtain rfl : v = Value.ref a := rx
  obtain ⟨m, fr⟩ := I2.fr
  obtain ⟨mA, O, _⟩ := ins_get I2.hok ea
  obtain ⟨od, J, _⟩ := O.look
  refine PySem.W.sub_K fr I2.ok.mod.kin J c.at_ c.fi c.fn ?_ (hs _ _)
  have hl : ([Value.ref a, u] ++ []).length = ps.length := F.len _ _ _ _ q
  have bt := hb s2 [.ref a, u] I2.kIn hl
  rw [List.append_nil] at bt
  refine wpAny_call (codeAny_mono (F.run X.A.in1 X.stack s2 H2 ⟨[.ref a, u], []⟩ [.ref a, u] [.ref a, y] Q (E σ) hr.in1 I2.env0.in1 bt (.cons rfl (.cons ry .nil)) q) fun r s' hq => ?_)
  match r, hq with
  | .error e, hq => exact hx σ pins H2 s2 e s' I2 hq
  | .ok (.ret u), hq => exact I2.after hq
  | .ok .next, hq => exact False.elim hq
  | .ok .brk, hq => exact False.elim hq
  | .ok .cont, hq => exact False.elim hq
end
section
variable {X : Cx} {CX : CXT} {k : Nat} {C f : Addr} {fd : FuncData} {ps : List Str} {sp : Sp} {E : XK} {pos : Pos} {a b : Expr} {ta tb : TE}
theorem pe_itO (c : SubC X.K C f) (F : FnOk X.prog X.w X.K X.mg X.base CX k f fd ps sp) (hr : Room (k + 1) X.A) (hb : Binds X.K fd ps []) (hx : Passes CX X E) (ha : PE X a ta) (hb2 : PE X b tb)
    (hs : ∀ o i, subscripted b true o i = runValue (.builtin "lifetime.subscript" ⟨[o, i], []⟩) := by intro _ _; rfl) : PE X (.Subscript a b pos) (tItS C sp (fun _ => E) ta tb) :=
  pe_itS c F hr hb (fun σ pins H s e s' I h => hx pins σ H s e s' I h) ha hb2 hs
end
/-! ### an own exception made without arguments -/
section
variable {X : Cx} {p pos : Pos}
theorem pmk_oex0 {CX : CXT} {x : Str} {C fI : Addr} {k : Nat} {fd : FuncData} {ps : List Str} {sp : Sp} (T : OexC X.K C) (iC : PySem.W.findIn X.K (.ref C) "__init__" = some (some (.ref fI))) (tI : PySem.W.typeIn X.K (.ref fI) = some (.type "function"))
    (F1 : FnOk X.prog X.w X.K X.mg X.base CX k fI fd ps sp) (hr : Room (k + 1) X.A) (hb : Binds X.K fd ps []) (hx : Passes CX X (fun _ _ _ => False)) (hg : Gl X x) (hm : X.mg x = some (.ref C)) (hdb : (x == ("__debug__" : Str)) = false := by decide) :
    PMk X (.Call (.Name x p) [] [] pos) (tMkO C sp [] tNil) := by
  intro pins s σ H Q I h
  obtain ⟨nm, q, N, bs, bm, sn, sub, ab, col, dd, k0, k1, k2, k3, k5, hC, hbm⟩ := T.cls
  refine wpAny_Call_Name_kw (ld_glob I hg hm ?_ hdb)
  refine PySem.W.callWith_K0 I.kIn T.kC ?_
  obtain ⟨_, q1⟩ := h
  obtain ⟨hp, g, dr, tk, os⟩ := s
  have up : hp.objs.size ≤ hp.objs.size + 1 := Nat.le_succ _
  have hq := q1 (hp.objs.size + 1) (I.hok.fresh up)
  have stay : ∀ b o, hp.get? b = some o → ((hp.push (PySem.W.kdv_tup [])).push (PySem.HandSPX.excO C hp.objs.size)).get? b = some o := fun b o e => Heap.get?_push_of_some _ (Heap.get?_push_of_some _ e)
  have there : ((hp.push (PySem.W.kdv_tup [])).push (PySem.HandSPX.excO C hp.objs.size)).get? (hp.objs.size + 1) = some (PySem.HandSPX.excO C hp.objs.size) := by heap_get
  have I2 := I.laid (t' := tk) (a := hp.objs.size + 1) (o := exo (hp.objs.size + 1) C none) (h' := (hp.push (PySem.W.kdv_tup [])).push (PySem.HandSPX.excO C hp.objs.size)) stay up (exo_ok there)
  have hl : ([Value.ref (hp.objs.size + 1)] ++ []).length = ps.length := F1.len _ _ _ _ hq
  refine wpAny_call (PySem.HandSPX.call_own F.excBase_ValueError (fun Y => PySem.HandSPX.refsVE_contains Y bm hbm) (I.kIn _ _ hC) (PySem.W.looks_findIn I.kIn iC) (fun self => PySem.W.bind_fn I.kIn self tI) (Nat.zero_le _)
    (codeAny_mono (F1.run _ X.stack _ _ ⟨[Value.ref (hp.objs.size + 1)], []⟩ [Value.ref (hp.objs.size + 1)] _ _ (fun _ _ _ => False) (hr.make C [] []) (I2.env0.make C [] []) (hb _ [Value.ref (hp.objs.size + 1)] I2.kIn hl) (show Vals [V.ref (hp.objs.size + 1)] [Value.ref (hp.objs.size + 1)] from .cons rfl .nil) hq) fun r s' hs => ?_))
  match r, hs with
  | .error er, hs => exact hx pins σ _ _ er s' I2 hs
  | .ok (.ret u), hs =>
    obtain ⟨v, H2, os2, bare2, un2, hok2, rv, ev, d, fs, ea, ed, hd1, q2⟩ := hs
    subst ev
    obtain ⟨h2, g2, d2, t2, os'⟩ := s'
    exact ⟨rv, mk_end (raises_own T.exC T.tyC) I up stay un2 hok2 os2 bare2 ea ed hd1 q2⟩
  | .ok .next, hs => exact False.elim hs
  | .ok .brk, hs => exact False.elim hs
  | .ok .cont, hs => exact False.elim hs
end
/-! ### lists turned round, places of items -/
theorem mt_reverseL {X : Cx} : MtM X "list.reverse" (fun x vs H Q => ∃ l xs, x = .ref l ∧ vs = [] ∧ H l = some (.lst xs) ∧ Q .non (upd H l (.lst xs.reverse))) := by
  intro pins s σ H x vs v us Q I rx rv h
  obtain ⟨l, xs, rfl, rfl, hH, q⟩ := h
  obtain rfl : v = Value.ref l := rx
  obtain rfl := rv.zero
  obtain ⟨z, its, n, r, hl, e⟩ := I.lstM hH
  have few : its.length ≤ sizeLine := by rw [← r.length]; omega
  refine call_meets F.slot_list_reverse ⟨_, e, rfl⟩ F.entry_list_reverse (F.args_list_reverse_1 _) (AutoSeq1.list_reverse_list_0 l its.toArray n (by simpa using few)) ⟨e, ?_⟩
  exact ⟨.non, _, I.lset (its' := its.reverse) (ys := xs.reverse) hH e (by simp) r.reverse (by rw [List.length_reverse]; omega), rfl, q⟩
theorem mindexK {X : Cx} (K : PySem.W.Frag) (h : X.K = K := by rfl) : MtR X "list.index" (rIndex K) := h ▸ mt_index
theorem mtupK {X : Cx} (K : PySem.W.Frag) (h : X.K = K := by rfl) : MtR X "tuple.index" (fun x xs H Q => ∃ p, ∃ ys : List Str, ∃ z j, x = .ref p ∧ xs = [.str z] ∧ SqT K H p (ys.map V.str) ∧ ys[j]? = some z ∧ (∀ m, m < j → ys[m]? ≠ some z) ∧ Q (.int (j : Nat)) H) := h ▸ mt_tup_index
/-! ### defs of own classes, ready to be called -/
structure CalIn (P : Program) (w : World) (K : PySem.W.Frag) (mg : Str → Option Value) (base : Heap) (CX : CXT) (k : Nat) (C f : Addr) (fd : FuncData) (ps : List Str) (sp : Sp) : Prop extends CalB P w K mg base CX k f fd ps sp where
  ic : InC K C f
structure CalSub (P : Program) (w : World) (K : PySem.W.Frag) (mg : Str → Option Value) (base : Heap) (CX : CXT) (k : Nat) (C f : Addr) (fd : FuncData) (ps : List Str) (sp : Sp) : Prop extends CalB P w K mg base CX k f fd ps sp where
  su : SubC K C f
structure CalIt (P : Program) (w : World) (K : PySem.W.Frag) (mg : Str → Option Value) (base : Heap) (CX : CXT) (k : Nat) (C f : Addr) (sp : Nat → Sp) : Prop where
  F : FnS P w K mg base CX k f sp
  oi : OitC K C f
end El

set_option Elab.async false
set_option linter.all false
set_option maxRecDepth 100000
set_option maxHeartbeats 4000000
/-! Own words: an own exception whose __init__ takes nothing and keeps nothing. -/
namespace El
open PySem PySem.Spec PyProof.Rows L2 NdefX
/-- its __init__ -/
def spE0 (C : Addr) : Sp := fun vs H Q _ => ∃ a : Addr, vs = [.ref a] ∧ H a = some (exo a C none) ∧ Q .non H
/-- the end of C(): the exception is let go -/
theorem mk_none {X : Cx} {pins : List (Addr × Obj)} {σ : L2.St} {H1 : Hp} {Q : XK} {hp hp2 h2 : Heap} {g1 g2 : Array GenState} {d1 d2 : Drawn} {t1 t2 : Nat} {os1 os2 : OsState} {a C : Addr} (T : Raises X (.ref C)) (I1 : Inv X pins σ H1 ⟨hp, g1, d1, t1, os1⟩)
    (ha : hp.objs.size ≤ a) (k : ∀ b o, hp.get? b = some o → hp2.get? b = some o) (un : Un (frs X.stack) [] (upd H1 a (exo a C none)) (upd H1 a (exo a C none)) hp2 h2) (hok : HOk X.prog X.w (upd H1 a (exo a C none)) h2) (ho : os2 = os1) (hb : AllBare g2)
    (q : Q (.ref C) none H1) : MkP X pins σ Q (.ref a) ⟨h2, g2, d2, t2, os2⟩ := by
  have ea : (upd H1 a (exo a C none)) a = some (exo a C none) := upd_same
  obtain ⟨t0, hoe⟩ := exo_at hok ea
  have na : H1 a = none := I1.hok.fresh ha
  obtain ⟨G, g1', g2'⟩ := restrict h2 fun b => decide (b ≠ a)
  have gk : ∀ {b}, b ≠ a → G.get? b = h2.get? b := fun {b} z => g1' b (decide_eq_true z)
  have ge : G.get? a = none := g2' a (by simp)
  have old : ∀ {b : Addr} {o : Obj}, hp.get? b = some o → b ≠ a := fun {b o} z => Nat.ne_of_lt (Nat.lt_of_lt_of_le (Heap.lt_size z) ha)
  have up : ∀ {b : Addr}, b ≠ a → H1 b = none → upd H1 a (exo a C none) b = none := fun {b} z n => by rw [upd_ne z]; exact n
  have U : Un (frs X.stack) [] H1 H1 hp G :=
    { keep := fun b o z n hf hx => (gk (old z)).trans (un.keep b o (k b o z) (up (old z) n) hf hx)
      slot := fun b o z n hf hx => by
        rw [gk (old z)]
        exact un.slot b o (k b o z) (up (old z) n) hf hx
      free := fun b o z n hx => n
      there := fun b o z hx => by
        rw [gk (old z)]
        exact un.there b o (k b o z) hx
      tups := fun b xs z => z
      frzs := fun b o v z => z
      tbls := fun b ps z => ⟨#[], by rw [Array.append_empty]; exact z⟩ }
  have own_ne : ∀ {b c : Addr}, upd H1 a (exo a C none) c = some (.own b) → c ≠ a := fun {b c} z => at_ne ea z exo_own
  have hok3 : HOk X.prog X.w H1 G := fun b o z => by
    have hba : b ≠ a := fun e => by rw [e, na] at z; cases z
    refine (hok b o (by rw [upd_ne hba]; exact z)).stay (fun c v hc y => ?_) (fun c hc => ?_) (fun c xs hc => ?_)
    · have hca : c ≠ a := hc.elim (fun e => e ▸ hba) fun e => own_ne e
      exact (gk hca).trans y
    · have := own_ne hc
      rwa [upd_ne this] at hc
    · have := at_ne ea hc exo_tup
      rwa [upd_ne this] at hc
  have J : Inv X pins σ H1 ⟨G, g2, d2, t2, os2⟩ := I1.call' (ch := []) ho U hok3 hb (fun b z => absurd z (by simp))
  refine ⟨a, _, _, ⟨G, g2, d2, t2, os2⟩, _, .ref C, none, rfl, J, fun b o z => ?_, ge, hoe, ⟨rfl, rfl⟩, rfl, rfl, na, rfl, hb, T, q⟩
  by_cases hba : b = a
  · rw [hba, ge] at z
    cases z
  · exact (gk hba).symm.trans z
section
variable {X : Cx} {p pos : Pos}
theorem pmk_none {CX : CXT} {x : Str} {C fI : Addr} {k : Nat} {fd : FuncData} {ps : List Str} (T : OexC X.K C) (iC : PySem.W.findIn X.K (.ref C) "__init__" = some (some (.ref fI))) (tI : PySem.W.typeIn X.K (.ref fI) = some (.type "function"))
    (F1 : FnOk X.prog X.w X.K X.mg X.base CX k fI fd ps (spE0 C)) (hr : Room (k + 1) X.A) (hb : Binds X.K fd ps []) (hx : Passes CX X (fun _ _ _ => False)) (hg : Gl X x) (hm : X.mg x = some (.ref C)) (hdb : (x == ("__debug__" : Str)) = false := by decide) :
    PMk X (.Call (.Name x p) [] [] pos) (fun _ H Q => Q (.ref C) none H) := by
  intro pins s σ H Q I h
  obtain ⟨nm, q, N, bs, bm, sn, sub, ab, col, dd, k0, k1, k2, k3, k5, hC, hbm⟩ := T.cls
  refine wpAny_Call_Name_kw (ld_glob I hg hm (PySem.W.callWith_K0 I.kIn T.kC ?_) hdb)
  obtain ⟨hp, g, dr, tk, os⟩ := s
  have up : hp.objs.size ≤ hp.objs.size + 1 := Nat.le_succ _
  have hq : spE0 C [V.ref (hp.objs.size + 1)] (upd H (hp.objs.size + 1) (exo (hp.objs.size + 1) C none)) (fun v H2 => v = .non ∧ H2 = upd H (hp.objs.size + 1) (exo (hp.objs.size + 1) C none)) (fun _ _ _ => False) := ⟨_, rfl, upd_same, rfl, rfl⟩
  have stay : ∀ b o, hp.get? b = some o → ((hp.push (PySem.W.kdv_tup [])).push (PySem.HandSPX.excO C hp.objs.size)).get? b = some o := fun b o e => Heap.get?_push_of_some _ (Heap.get?_push_of_some _ e)
  have there : ((hp.push (PySem.W.kdv_tup [])).push (PySem.HandSPX.excO C hp.objs.size)).get? (hp.objs.size + 1) = some (PySem.HandSPX.excO C hp.objs.size) := by heap_get
  have I2 := I.laid (t' := tk) (a := hp.objs.size + 1) (o := exo (hp.objs.size + 1) C none) (h' := (hp.push (PySem.W.kdv_tup [])).push (PySem.HandSPX.excO C hp.objs.size)) stay up (exo_ok there)
  have hl : ([Value.ref (hp.objs.size + 1)] ++ []).length = ps.length := F1.len _ _ _ _ hq
  refine wpAny_call (PySem.HandSPX.call_own F.excBase_ValueError (fun Y => PySem.HandSPX.refsVE_contains Y bm hbm) (I.kIn _ _ hC) (PySem.W.looks_findIn I.kIn iC) (fun self => PySem.W.bind_fn I.kIn self tI) (Nat.zero_le _)
    (codeAny_mono (F1.run _ X.stack _ _ ⟨[Value.ref (hp.objs.size + 1)], []⟩ [Value.ref (hp.objs.size + 1)] _ _ (fun _ _ _ => False) (hr.make C [] []) (I2.env0.make C [] []) (hb _ [Value.ref (hp.objs.size + 1)] I2.kIn hl) (show Vals [V.ref (hp.objs.size + 1)] [Value.ref (hp.objs.size + 1)] from .cons rfl .nil) hq) fun r s' hs => ?_))
  match r, hs with
  | .error er, hs => exact hx pins σ _ _ er s' I2 hs
  | .ok (.ret u), hs =>
    obtain ⟨v, H2, os2, bare2, un2, hok2, rv, ev, eH⟩ := hs
    subst ev eH
    obtain ⟨h2, g2, d2, t2, os'⟩ := s'
    exact ⟨rv, mk_none (raises_own T.exC T.tyC) I up stay un2 hok2 os2 bare2 h⟩
  | .ok .next, hs => exact False.elim hs
  | .ok .brk, hs => exact False.elim hs
  | .ok .cont, hs => exact False.elim hs
end
/-- the class, its __init__, ready for a raise -/
structure CalE0 (P : Program) (w : World) (K : PySem.W.Frag) (mg : Str → Option Value) (base : Heap) (k : Nat) (x : Str) (C f : Addr) (fd : FuncData) (ps : List Str) : Prop where
  G : FnOk P w K mg base CX0 k f fd ps (spE0 C)
  b : Binds K fd ps []
  X : ExK K C f []
  m : mg x = some (.ref C)
/-- isinstance(e, c), e the exception that the suite holds, without a dict -/
theorem call_isN {X : Cx} {a : Addr} {oe : Obj} {cls : Value} {d : Option Addr} {pn : List (Addr × Obj)} (hz : Zc cls d oe) (hf : ∃ vs, oe.data = .fields vs) : CallR (X.suite a ((a, oe) :: pn)) (.builtin "isinstance") (fun xs H Q => rIsX X.K cls d a xs H Q ∨ ∃ (D : Addr) (c : V) (cv : Value) (b : Bool), xs = [.ref a, c] ∧ cls = .ref D ∧ d = none ∧ ExcC X.K D ∧ (∀ u, RelV c u → u = cv) ∧ PySem.W.kitOne X.K (.ref D) cv = some b ∧ Q (.bl b) H) := by
  intro pins s σ H xs us Q I r h
  rcases h with h | ⟨D, c, cv, b, rfl, rfl, rfl, C, hcv, e, q⟩
  · exact call_isX hz hf pins s σ H xs us Q I r h
  cases r with
  | cons rx rr =>
    cases rr with
    | cons rt rr =>
      cases rr
      cases rx
      have ec := hcv _ rt
      subst ec
      obtain ⟨hget, _⟩ := I.pin (a, oe) (List.mem_append.mpr (.inl List.mem_cons_self))
      obtain ⟨vs, hv⟩ := hf
      have J : PySem.W.InstAt s.heap a oe D none := ⟨hget, hz.1, by unfold PySem.W.notCls; rw [hv] <;> rfl, by rw [hz.2]; exact trivial⟩
      obtain ⟨cdD, hcD, _⟩ := PySem.W.any_some C.hd
      exact PySem.W.kia_one (PySem.W.kitx_exc (by rw [hcD]; rfl) C.hg C.hk C.hs C.ha C.hn C.ht C.hm) I.kIn J e (fun z => nomatch z) fun tk => ⟨.bl b, H, I.kept (t' := tk) fun _ _ z => z, rfl, q⟩
end El

set_option Elab.async false
set_option linter.all false
set_option maxRecDepth 100000
set_option maxHeartbeats 4000000
/-! Own words: comprehensions with two clauses, walk in walk. -/
namespace El
open PySem PySem.Spec PyProof.Rows L2
/-- the second clause's loop, from which Nx is reached -/
def Inner2 (J1 : It) (g1 : TG) (tt1 : TT) (te : TE) (σ2 : L2.St) (vs1 : List Nat) (D : Addr) (Nx : Hp → Prop) (H4 : Hp) : Prop :=
  ∃ W1 : Nat → Nat → Hp → Prop, (∃ m, W1 0 m H4) ∧ ∀ j k H, W1 j k H → (J1.stop j H ∧ Nx H) ∨ (J1.go j H ∧ ∃ Nx1 : Hp → Prop, (∀ H', Nx1 H' → ∃ k', k' < k ∧ W1 (j + 1) k' H') ∧ ∀ x H', J1.yld j H x H' → g1 x (wipe σ2 vs1) H' fun σ3 H5 => wipe σ3 vs1 = wipe σ2 vs1 ∧ tt1 σ3 H5 fun b H6 =>
    if b = true then te σ3 H6 fun y H7 => ∃ acc, H7 D = some (.lst acc) ∧ acc.length < sizeLine ∧ Nx1 (upd H7 D (.lst (acc ++ [y]))) else Nx1 H6)
theorem inner2_it {J1 : It} {n : Nat} {G : Hp → Prop} {Y : Nat → Hp → V → Hp → Prop} (w : Walk J1 n G Y) {g1 : TG} {tt1 : TT} {te : TE} {σ2 : L2.St} {vs1 : List Nat} {D : Addr} {Nx : Hp → Prop} {H4 : Hp} (Pv : Nat → Hp → Prop) (h0 : Pv 0 H4) (hG : ∀ j H, j ≤ n → Pv j H → G H)
    (hs : ∀ j x H H', j < n → Pv j H → Y j H x H' → g1 x (wipe σ2 vs1) H' fun σ3 H5 => wipe σ3 vs1 = wipe σ2 vs1 ∧ tt1 σ3 H5 fun b H6 =>
      if b = true then te σ3 H6 fun y H7 => ∃ acc, H7 D = some (.lst acc) ∧ acc.length < sizeLine ∧ Pv (j + 1) (upd H7 D (.lst (acc ++ [y]))) else Pv (j + 1) H6)
    (hd : ∀ H, Pv n H → Nx H) : Inner2 J1 g1 tt1 te σ2 vs1 D Nx H4 := by
  refine ⟨fun j k H => k = n - j ∧ j ≤ n ∧ Pv j H, ⟨n, by simp, Nat.zero_le _, h0⟩, ?_⟩
  rintro j k H ⟨rfl, hj, p⟩
  have q := hG j H hj p
  by_cases e : j < n
  · exact .inr ⟨w.goes j H e q, Pv (j + 1), fun H' p' => ⟨n - (j + 1), by omega, rfl, e, p'⟩, fun x H' y => hs j x H H' e p (w.yields j H x H' e q y)⟩
  · obtain rfl : j = n := by omega
    exact .inl ⟨w.stops H q, hd H p⟩
theorem lc2_it {J : It} {n : Nat} {G : Hp → Prop} {Y : Nat → Hp → V → Hp → Prop} (w : Walk J n G Y) {g : TG} {tt : TT} {wi1 : TI} {g1 : TG} {tt1 : TT} {te : TE} {vs vs1 : List Nat} {σ : L2.St} {H1 : Hp} {D : Addr} {Qd : Hp → Prop} (Pv : Nat → Hp → Prop) (h0 : Pv 0 (upd H1 D (.lst []))) (hG : ∀ i H, i ≤ n → Pv i H → G H)
    (hs : ∀ i x H H', i < n → Pv i H → Y i H x H' → g x (wipe σ vs) H' fun σ2 H2 => wipe σ2 vs = wipe σ vs ∧ tt σ2 H2 fun b H3 =>
      if b = true then wi1 σ2 H3 fun J1 H4 => Inner2 J1 g1 tt1 te σ2 vs1 D (Pv (i + 1)) H4 else Pv (i + 1) H3)
    (hd : ∀ H, Pv n H → Qd H) :
    ∃ W : Nat → Nat → Hp → Prop, (∃ m, W 0 m (upd H1 D (.lst []))) ∧ ∀ i m H, W i m H →
      (J.stop i H ∧ Qd H) ∨ (J.go i H ∧ ∃ Nx : Hp → Prop, (∀ H', Nx H' → ∃ m', m' < m ∧ W (i + 1) m' H') ∧ ∀ x H', J.yld i H x H' → g x (wipe σ vs) H' fun σ2 H2 => wipe σ2 vs = wipe σ vs ∧ tt σ2 H2 fun b H3 =>
        if b = true then wi1 σ2 H3 fun J1 H4 => Inner2 J1 g1 tt1 te σ2 vs1 D Nx H4 else Nx H3) := by
  refine ⟨fun i m H => m = n - i ∧ i ≤ n ∧ Pv i H, ⟨n, by simp, Nat.zero_le _, h0⟩, ?_⟩
  rintro i m H ⟨rfl, hi, p⟩
  have q := hG i H hi p
  by_cases e : i < n
  · exact .inr ⟨w.goes i H e q, Pv (i + 1), fun H' p' => ⟨n - (i + 1), by omega, rfl, e, p'⟩, fun x H' y => hs i x H H' e p (w.yields i H x H' e q y)⟩
  · obtain rfl : i = n := by omega
    exact .inl ⟨w.stops H q, hd H p⟩
/-- tuple(p), p a list or a tuple: a tuple of the same items stands behind it -/
theorem tupS {X : Cx} : CallR X (.type "tuple") (fun xs H Q => ∃ p ys, xs = [.ref p] ∧ (H p = some (.lst ys) ∨ H p = some (.tup ys)) ∧ ∀ H1 t, (∀ b o, H b = some o → H1 b = some o) → H1 t = some (.tup ys) → Q (.ref t) H1) := cwk call_tuple_of fun xs H Q q => by
  obtain ⟨p, ys, rfl, hp, q⟩ := q
  rcases hp with hp | hp
  · refine ⟨p, ys, rfl, .inl ⟨SqL.of hp, fun l nl => q _ l (fun b o hb => ?_) upd_same⟩⟩
    rw [upd_ne (fun e => by rw [e, nl] at hb; cases hb)]
    exact hb
  · exact ⟨p, ys, rfl, .inr ⟨SqT.of hp, q H p (fun _ _ h => h) hp⟩⟩
end El

set_option Elab.async false
set_option linter.all false
set_option maxRecDepth 100000
set_option maxHeartbeats 4000000
/-! Own words: len(set(t)) of a tuple of tuples of texts. -/
namespace El
open PySem PySem.Spec PyProof.Rows L2

/-! ### the way of a search, said of places alone -/
abbrev stt (t : SetTable) (h : Int) (c : Nat) : SetTable.Probe := nth t.mask (runAt t.mask (SetTable.bits h % (t.mask + 1)) (SetTable.bits h)) c
theorem stt_on (t : SetTable) (h : Int) (c q : Nat) : nth t.mask (stt t h c) q = stt t h (c + q) := (nth_add t.mask c _ q).symm
theorem adv_clean {m : Nat} {p : SetTable.Probe} (h : p.dummy = none) : (adv m p).dummy = none := by
  unfold adv
  split
  · exact h
  · exact h
theorem nth_clean (m : Nat) : ∀ (n : Nat) (p : SetTable.Probe), p.dummy = none → (nth m p n).dummy = none
  | 0, _, h => h
  | n + 1, p, h => nth_clean m n (adv m p) (adv_clean h)
theorem probe_at {t : SetTable} {rows : List Int} (T : TabOk t rows) (at_ : Nat → Int) (h : Int) {K c : Nat} (kf : K < 10 * SetTable.turns t.mask) (kn : way t.mask h K ∉ t.place.toList) (kb : ∀ q, q < K → way t.mask h q ∈ t.place.toList) (hc : c ≤ K) :
    (∃ q i, c ≤ q ∧ q < K ∧ t.place.toList[i]? = some (way t.mask h q) ∧ at_ i = h ∧ (∀ q' i', c ≤ q' → q' < q → t.place.toList[i']? = some (way t.mask h q') → at_ i' ≠ h) ∧ t.probe at_ h (stt t h c) = some (.candidate (way t.mask h q) i (stt t h (q + 1)))) ∨
    ((∀ q' i', c ≤ q' → q' < K → t.place.toList[i']? = some (way t.mask h q') → at_ i' ≠ h) ∧ t.probe at_ h (stt t h c) = some (.empty (way t.mask h K) none)) := by
  have mv : ∀ q, (nth t.mask (stt t h c) q).j = way t.mask h (c + q) := fun q => congrArg SetTable.Probe.j (stt_on t h c q)
  have back : ∀ q', c ≤ q' → way t.mask h q' = (nth t.mask (stt t h c) (q' - c)).j := fun q' hq => by
    rw [mv]
    exact congrArg (way t.mask h) (by omega)
  rcases go_spec t T.ris T.dm at_ h (10 * SetTable.turns t.mask) (K - c) (stt t h c) (nth_clean _ _ _ rfl) (by omega) (fun q hq => by rw [mv]; exact kb _ (by omega)) (by rw [← back K hc]; exact kn) with ⟨q, i, l, e1, e2, free, e3⟩ | ⟨free, e3⟩
  · refine .inl ⟨c + q, i, Nat.le_add_right _ _, by omega, by rw [← mv]; exact e1, e2, fun q' i' a b d => free (q' - c) i' (by omega) (by rw [← back q' a]; exact d), ?_⟩
    rw [mv, stt_on] at e3
    exact e3
  · refine .inr ⟨fun q' i' a b d => free (q' - c) i' (by omega) (by rw [← back q' a]; exact d), ?_⟩
    rw [← back K hc] at e3
    exact e3

section
variable {P : Program} {w : World} {A : Around} {E : Value → Shared → Prop} {s : Shared}
/-- the tuple at b holds the texts k -/
abbrev Tk (P : Program) (w : World) (h : Heap) (k : List Str) (b : Addr) : Prop := IsTupleKey (PySem.strKind P w) h k b
abbrev hs (P : Program) (w : World) (k : List Str) : Int := tupleKeyHash (PySem.strKind P w) k
def Txs (vs : List Value) : Prop := ∀ v ∈ vs, ∃ x t, v = Value.str x t
theorem Txs.of {k : List Str} {vs : List Value} (h : ItemsAre (PySem.strKind P w) k vs) : Txs vs := by
  induction h with
  | nil => exact fun _ z => nomatch z
  | cons one _ more =>
    intro v hv
    cases hv with
    | head => obtain ⟨t, e⟩ := Value.isStrOf_shape one; exact ⟨_, t, e⟩
    | tail _ hv => exact more v hv
theorem Txs.tl {v : Value} {vs : List Value} (h : Txs (v :: vs)) : Txs vs := fun u hu => h u (List.mem_cons_of_mem _ hu)
theorem class_tx (n : Nat) (x : Str) (t : Tok) : ofAClassStatement n (.str x t) = pure false := by cases n <;> rfl
theorem byval_tx (n : Nat) (x : Str) (t : Tok) : hashByValue n (.str x t) = pure false := by cases n <;> simp [hashByValue]
theorem class_tk {k : List Str} {b : Addr} {Q : Bool → Shared → Prop} (hk : Tk P w s.heap k b) (q : Q false s) : wpAny (model P w) A (ofAClassStatement 8 (.ref b)) Q E s := by
  have ty := hk.typeIs
  obtain ⟨ob, its, c, e1, _, e2, e3⟩ := hk
  have tx := Txs.of e3
  unfold ofAClassStatement
  refine wpAny_bind (wpAny_typeOf ty ?_)
  have same : (("tuple" : String) == "tuple") = true := by decide
  simp only [same, if_true, Bool.not_true, Bool.false_eq_true, if_false]
  try refine wpAny_bind (wpAny_pure ?_)
  try simp only [Bool.not_true, Bool.false_eq_true, if_false]
  refine wpAny_bind (m := seqItems? (.ref b)) (wpAny_seqItems e1 e2 ?_)
  refine wpAny_bind ?_
  show wpAny _ _ (forIn its _ _) _ _ s
  rw [← Array.forIn_toList]
  refine wpAny_forIn_list _ (fun left st s1 => Txs left ∧ st.1 = none ∧ s1 = s) _ (fun v left st s1 => ?_) (fun st s1 => ?_) _ _ ⟨tx, rfl, rfl⟩
  · rintro ⟨tx, e, rfl⟩
    obtain ⟨x, t, rfl⟩ := tx v List.mem_cons_self
    rw [class_tx]
    refine wpAny_bind (wpAny_pure ?_)
    simp only [Bool.false_eq_true, if_false]
    exact wpAny_pure ⟨tx.tl, rfl, rfl⟩
  · obtain ⟨u1, u2⟩ := st
    rintro ⟨_, e, rfl⟩
    cases (show u1 = none from e)
    exact wpAny_pure q
theorem byval_tk {k : List Str} {b : Addr} {Q : Bool → Shared → Prop} (hk : Tk P w s.heap k b) (q : ∀ c, Q c s) : wpAny (model P w) A (hashByValue 8 (.ref b)) Q E s := by
  have ty := hk.typeIs
  obtain ⟨ob, its, c, e1, _, e2, e3⟩ := hk
  have tx := Txs.of e3
  unfold hashByValue
  refine wpAny_bind (wpAny_specialOf ty PySem.F.slot_tuple_hash.lookup ?_)
  refine wpAny_bind (m := seqItems? (.ref b)) (wpAny_seqItems e1 e2 ?_)
  refine wpAny_bind ?_
  show wpAny _ _ (forIn its _ _) _ _ s
  rw [← Array.forIn_toList]
  refine wpAny_forIn_list _ (fun left st s1 => Txs left ∧ s1 = s) _ (fun v left st s1 => ?_) (fun st s1 => ?_) _ _ ⟨tx, rfl⟩
  · rintro ⟨tx, rfl⟩
    obtain ⟨x, t, rfl⟩ := tx v List.mem_cons_self
    rw [byval_tx]
    refine wpAny_bind (wpAny_pure ?_)
    simp only [Bool.not_false, if_true]
    exact wpAny_pure (wpAny_pure (q _))
  · obtain ⟨u1, u2⟩ := st
    rintro ⟨_, rfl⟩
    cases u1 with
    | none => exact wpAny_pure (q _)
    | some c => exact wpAny_pure (q _)
def Tks (P : Program) (w : World) (h : Heap) (vs : List Value) : Prop := ∀ v ∈ vs, ∃ k b, v = Value.ref b ∧ Tk P w h k b
theorem seen_tk {k : List Str} {b : Addr} {Q : Bool → Shared → Prop} (hk : Tk P w s.heap k b) {vs : List Value} (hv : Tks P w s.heap vs) (q : Q false s) : wpAny (model P w) A (searchCouldBeSeen (.ref b) vs) Q E s := by
  unfold searchCouldBeSeen
  refine wpAny_bind (wpAny_forIn_list _ (fun left st s1 => Tks P w s.heap left ∧ st.1 = none ∧ s1 = s) _ (fun v left st s1 => ?_) (fun st s1 => ?_) _ _ ⟨hv, rfl, rfl⟩)
  · rintro ⟨hv, e, rfl⟩
    obtain ⟨k2, c, rfl, hc⟩ := hv v List.mem_cons_self
    have fin : Tks P w s1.heap left ∧ (none : Option Bool) = none ∧ s1 = s1 := ⟨fun u hu => hv u (List.mem_cons_of_mem _ hu), rfl, rfl⟩
    dsimp only
    by_cases z : (b == c || (carriedByValue (.ref b) && carriedByValue (.ref c))) = true
    · exact wp_if_pos z (wpAny_pure fin)
    · refine wp_if_neg z (wpAny_bind (wpAny_eqIsQuiet_tuple hk ?_))
      simp only [Bool.not_true, Bool.false_eq_true, if_false]
      refine wpAny_bind (wpAny_eqIsQuiet_tuple hc ?_)
      simp only [Bool.not_true, Bool.false_eq_true, if_false]
      refine wpAny_bind (class_tk hk ?_)
      simp only [Bool.false_eq_true, if_false]
      refine wpAny_bind (class_tk hc ?_)
      simp only [Bool.false_eq_true, if_false]
      exact wpAny_pure fin
  · obtain ⟨u1, u2⟩ := st
    rintro ⟨_, e, rfl⟩
    cases (show u1 = none from e)
    exact wpAny_pure q

/-! ### a set of tuples of texts -/
def row (P : Program) (w : World) (p : Addr × List Str) : Int × Value := (hs P w p.2, Value.ref p.1)
structure Bag (P : Program) (w : World) (h : Heap) (a : Addr) (L : List (Addr × List Str)) (es : Array (Int × Value)) (ep : Nat) (t : SetTable) : Prop where
  ob : ∃ o, h.get? a = some o ∧ o.ExactSet ∧ o.data = .set es ep t
  rows : es.toList = L.map (row P w)
  tab : TabOk t (L.map fun p => hs P w p.2)
  led : w.params.followText "set-order" = true ∨ t.led = true
  room : L.length * 5 < t.mask * 3
  few : L.length < 64
  tk : ∀ p ∈ L, Tk P w h p.2 p.1
  nd : (L.map (·.2)).Nodup
variable {a : Addr} {L : List (Addr × List Str)} {es : Array (Int × Value)} {ep : Nat} {t : SetTable}
theorem size_rows (e : es.toList = L.map (row P w)) : es.size = L.length := by
  rw [← Array.length_toList, e, List.length_map]
theorem fits_of (e : es.toList = L.map (row P w)) (z : t.place.size = L.length) (d : t.dummies = #[]) (l : L.length ≤ t.mask) : t.fits es.size = true := by
  unfold SetTable.fits SetTable.fill
  rw [d, size_rows e, z, Bool.and_eq_true, beq_iff_eq, decide_eq_true_eq]
  exact ⟨rfl, l⟩
theorem Bag.szp (B : Bag P w s.heap a L es ep t) : t.place.size = L.length := by rw [B.tab.sz, List.length_map]
theorem Bag.lem (B : Bag P w s.heap a L es ep t) : L.length ≤ t.mask := by have := B.room; omega
theorem Bag.fits (B : Bag P w s.heap a L es ep t) : t.fits es.size = true := fits_of B.rows B.szp B.tab.dm B.lem
theorem row_at (e : es.toList = L.map (row P w)) {i : Nat} {p : Addr × List Str} (h : L[i]? = some p) : es[i]? = some (row P w p) := by
  rw [← Array.getElem?_toList, e, List.getElem?_map, h]
  rfl
/-- the search for k from step c of its way on -/
theorem seek (B : Bag P w s.heap a L es ep t) {x : Addr} {k : List Str} (hx : Tk P w s.heap k x) (hu : A.units < cLine) {K : Nat} (kf : K < 10 * SetTable.turns t.mask) (kn : way t.mask (hs P w k) K ∉ t.place.toList) (kb : ∀ q, q < K → way t.mask (hs P w k) q ∈ t.place.toList)
    {Q : SetFound → Shared → Prop} (yes : k ∈ L.map (·.2) → Q (.there none) s) (no : k ∉ L.map (·.2) → Q (.free (way t.mask (hs P w k) K) false) s) :
    ∀ (f c : Nat) (from_ : Option SetTable.Probe), from_.getD (t.probeStart (hs P w k)) = stt t (hs P w k) c → c ≤ K → K - c < f →
      (∀ (i : Nat) (p : Addr × List Str), L[i]? = some p → p.2 = k → ∃ q, c ≤ q ∧ q < K ∧ t.place.toList[i]? = some (way t.mask (hs P w k) q)) → wpAny (model P w) A (setSearchFrom a (.ref x) (hs P w k) true f from_) Q E s := by
  intro f
  induction f with
  | zero => exact fun c _ _ _ h => absurd h (Nat.not_lt_zero _)
  | succ f ih =>
    intro c from_ ef hc hf ahead
    obtain ⟨o, e1, e2, e3⟩ := B.ob
    have ld : ∀ {R : Array (Int × Value) × Nat × SetTable → Shared → Prop}, R (es, ep, t) s → wpAny (model P w) A (setState a) R E s := fun r => wpAny_setState_of e1 e3 B.fits r
    rw [setSearchFrom_succ]
    refine wpAny_bind (ld ?_)
    dsimp only
    refine wp_if_neg (by unfold SetTable.gaveWay; rw [mask_odd B.tab.mok]; decide) ?_
    try refine wpAny_bind (wpAny_pure ?_)
    have hat : ∀ (i : Nat) (p : Addr × List Str), L[i]? = some p → (fun i : Nat => (es[i]?.map (·.1)).getD 0) i = hs P w p.2 := fun i p hp => by
      show (es[i]?.map (·.1)).getD 0 = _
      rw [row_at B.rows hp]
      rfl
    rw [ef]
    rcases probe_at B.tab (fun i : Nat => (es[i]?.map (·.1)).getD 0) (hs P w k) kf kn kb hc with ⟨q, i, l1, l2, hi, hh, clear, pr⟩ | ⟨clear, pr⟩
    · rw [pr]
      dsimp only
      have il : i < L.length := by
        have h1 := (List.getElem?_eq_some_iff.mp hi).1
        rw [Array.length_toList, B.szp] at h1
        exact h1
      obtain ⟨p, hp⟩ : ∃ p, L[i]? = some p := ⟨_, List.getElem?_eq_getElem il⟩
      have pm := List.mem_of_getElem? hp
      have go : wpAny (model P w) A (searchRest a (.ref x) (hs P w k) true f es t (way t.mask (hs P w k) q) i (stt t (hs P w k) (q + 1))) Q E s := by
        unfold searchRest
        rw [row_at B.rows hp]
        dsimp only [row]
        refine wpAny_bind (wpAny_holding (wpAny_eqBool_tuple hu (B.tk p pm) hx (wpAny_bind (ld ?_))))
        dsimp only
        by_cases hk : p.2 = k
        · exact wp_if_pos (by simp [hk]) (wpAny_pure (yes (List.mem_map.mpr ⟨p, pm, hk⟩)))
        refine wp_if_neg (by simp [hk]) ?_
        try refine wpAny_bind (wpAny_pure ?_)
        rw [sameMem]
        have live : t.slot (way t.mask (hs P w k) q) = .live i := slot_live B.tab.ris hi
        simp only [if_true, live, row_at B.rows hp, row]
        refine wpAny_bind (wpAny_isSame_ref_self (wpAny_bind (wpAny_pure ?_)))
        simp only [if_true]
        refine wp_if_neg (by simp [hk]) (ih (q + 1) _ rfl l2 (by omega) fun i0 p0 h0 k0 => ?_)
        obtain ⟨q0, a1, a2, a3⟩ := ahead i0 p0 h0 k0
        refine ⟨q0, Nat.lt_of_le_of_ne (Nat.le_of_not_lt fun z => clear q0 i0 a1 z a3 ((hat i0 p0 h0).trans (congrArg (hs P w) k0))) fun z => hk ?_, a2, a3⟩
        have s0 := slot_live B.tab.ris a3
        rw [← z, live] at s0
        cases s0
        cases hp.symm.trans h0
        exact k0
      by_cases hl : t.led = true
      · refine wp_if_neg (by simp [hl]) ?_
        try refine wpAny_bind (wpAny_pure ?_)
        exact go
      · refine wp_if_pos (by simp [hl]) (wpAny_bind (seen_tk hx (fun v hv => ?_) ?_))
        · obtain ⟨r, hr, rfl⟩ := List.mem_map.mp hv
          have hr : r ∈ es := (by simpa using hr : r ∈ es ∧ r.1 = hs P w k).1
          have hr : r ∈ es.toList := by simpa using hr
          rw [B.rows] at hr
          obtain ⟨p2, m2, rfl⟩ := List.mem_map.mp hr
          exact ⟨p2.2, p2.1, rfl, B.tk p2 m2⟩
        · refine wp_if_neg (by decide) ?_
          try refine wpAny_bind (wpAny_pure ?_)
          exact go
    · rw [pr]
      refine wpAny_pure (no fun hm => ?_)
      obtain ⟨p0, m0, k0⟩ := List.mem_map.mp hm
      obtain ⟨i0, l0, h0⟩ := List.getElem_of_mem m0
      have h0 : L[i0]? = some p0 := by rw [List.getElem?_eq_getElem l0, h0]
      obtain ⟨q0, a1, a2, a3⟩ := ahead i0 p0 h0 k0
      exact clear q0 i0 a1 a2 a3 ((hat i0 p0 h0).trans (congrArg (hs P w) k0))
theorem sought (B : Bag P w s.heap a L es ep t) {x : Addr} {k : List Str} (hx : Tk P w s.heap k x) (hu : A.units < cLine) {Q : SetFound → Shared → Prop} (yes : k ∈ L.map (·.2) → Q (.there none) s)
    (no : ∀ K, k ∉ L.map (·.2) → way t.mask (hs P w k) K ∉ t.place.toList → (∀ q, q < K → way t.mask (hs P w k) q ∈ t.place.toList) → Q (.free (way t.mask (hs P w k) K) false) s) :
    wpAny (model P w) A (setSearch a (.ref x) (hs P w k) true) Q E s := by
  obtain ⟨K, kf, kn, kb⟩ := B.tab.first (by rw [List.length_map]; exact B.lem) (hs P w k)
  have small : K < 100000 := by
    have : SetTable.turns t.mask ≤ 142 := by
      unfold SetTable.turns
      rcases B.tab.mok with e | e | e <;> omega
    omega
  refine seek B hx hu kf kn kb yes (fun n => no K n kn kb) 100000 0 none rfl (Nat.zero_le _) small fun i p hp hk => ?_
  have il : i < t.place.toList.length := by
    rw [Array.length_toList, B.szp]
    exact (List.getElem?_eq_some_iff.mp hp).1
  obtain ⟨q, l, e⟩ := B.tab.before (h := hs P w k) kn (by rw [List.getElem?_map, hp, ← hk]; rfl) (List.getElem?_eq_getElem il)
  exact ⟨q, Nat.zero_le _, l, by rw [e]; exact List.getElem?_eq_getElem il⟩

/-! ### the table laid anew -/
theorem all_of_range {α : Type} : ∀ L : List α, (List.range L.length).filterMap (fun i => L[i]?) = L
  | [] => rfl
  | x :: r => by
    rw [List.length_cons, List.range_succ_eq_map, List.filterMap_cons_some (f := fun i => (x :: r)[i]?) (b := x) rfl, List.filterMap_map]
    exact congrArg (x :: ·) (all_of_range r)
theorem picked {f : Addr × List Str → Int} (g : Nat → Int) (hg : ∀ (i : Nat) (p : Addr × List Str), L[i]? = some p → g i = f p) : ∀ l : List Nat, (∀ i ∈ l, i < L.length) → (l.filterMap fun i => L[i]?).map f = l.map g
  | [], _ => rfl
  | i :: l, h => by
    obtain ⟨p, e⟩ : ∃ p, L[i]? = some p := ⟨_, List.getElem?_eq_getElem (h i List.mem_cons_self)⟩
    rw [List.filterMap_cons_some e, List.map_cons, List.map_cons, picked g hg l fun j hj => h j (List.mem_cons_of_mem _ hj), hg i p e]
theorem tk_but {h h' : Heap} {k : List Str} {b : Addr} {o : Obj} (z : Tk P w h k b) (ho : h.get? a = some o) (hd : o.data = .set es ep t) (sb : Heap.SameBut a h h') : Tk P w h' k b := by
  obtain ⟨o2, its, c, e1, e2, e3, e4⟩ := z
  refine ⟨o2, its, c, (sb.2 b fun e => ?_).trans e1, e2, e3, e4⟩
  cases (e ▸ e1 : h.get? a = some o2).symm.trans ho
  rw [hd] at e3
  cases e3
theorem relaid_at {o : Obj} (ho : s.heap.get? a = some o) (hx : o.ExactSet) (hd : o.data = .set es ep t) (rows : es.toList = L.map (row P w)) (zp : t.place.size = L.length) (dm : t.dummies = #[]) (lm : L.length ≤ t.mask)
    (led : w.params.followText "set-order" = true ∨ t.led = true) (few : L.length < 64) (tk : ∀ p ∈ L, Tk P w s.heap p.2 p.1) (nd : (L.map (·.2)).Nodup) {wanted M : Nat} (hw : SetTable.sizeAbove wanted = M + 1) (mok : MaskOk M) (room : L.length * 5 < M * 3)
    {Q : Unit → Shared → Prop} (q : ∀ h' L' es' ep' t', Heap.SameBut a s.heap h' → Bag P w h' a L' es' ep' t' → L'.Perm L → Q () { s with heap := h' }) : wpAny (model P w) A (setRelay a wanted) Q E s := by
  have zs := size_rows rows
  have M128 : M + 1 ≤ 128 := by rcases mok with e | e | e <;> omega
  obtain ⟨t2, order, e1, pm, T, em, el, _, _⟩ := relaid_ok t (hs := es.map (·.1)) (wanted := wanted) (by rw [hw]; rfl) mok (by rw [Array.size_map, zs]; omega)
  rw [Array.size_map, zs] at pm
  have below : ∀ i ∈ order.toList, i < L.length := fun i hi => List.mem_range.mp (pm.mem_iff.mp hi)
  have same : ∀ i : Nat, es[i]? = (L[i]?).map (row P w) := fun i => by rw [← Array.getElem?_toList, rows, List.getElem?_map]
  have rows2 : (order.filterMap (es[·]?)).toList = (order.toList.filterMap fun i => L[i]?).map (row P w) := by
    rw [Array.toList_filterMap, List.map_filterMap]
    exact congrArg (fun f => List.filterMap f order.toList) (funext same)
  have pl : (order.toList.filterMap fun i => L[i]?).Perm L := by
    have z := pm.filterMap fun i => L[i]?
    rw [all_of_range] at z
    exact z
  rw [← picked (L := L) (f := fun p => hs P w p.2) _ (fun i p hp => by
    have z : (es.map (·.1))[i]? = some (hs P w p.2) := by
      rw [Array.getElem?_map, same, hp]
      rfl
    rw [Array.getD_eq_getD_getElem?, z]
    rfl) order.toList below] at T
  generalize (order.toList.filterMap fun i => L[i]?) = L2 at rows2 pl T
  have z2 : (order.filterMap (es[·]?)).size = es.size := by rw [size_rows rows2, zs, pl.length_eq]
  rw [setRelay_eq]
  refine wpAny_bind (wpAny_setState_of ho hd (fits_of rows zp dm lm) ?_)
  dsimp only
  refine wp_if_neg (by rw [hw, sizeLine_eq]; omega) ?_
  try refine wpAny_bind (wpAny_pure ?_)
  rw [e1]
  refine wpAny_bind (wp_if_neg (by rw [z2]; simp) ?_)
  try refine wpAny_bind (wpAny_pure ?_)
  refine wpAny_pure (wpAny_storeSet_of ho hd ?_ (by rw [z2, zs, sizeLine_eq]; omega))
  have sb : Heap.SameBut a s.heap (s.heap.update a (Obj.putSet (order.filterMap (es[·]?)) t2)) := Heap.SameBut.update ..
  refine q _ L2 _ (ep + 1) t2 sb ⟨⟨_, store_at ho hd, ⟨hx.1, hx.2.1, hx.2.2⟩, rfl⟩, rows2, T, by rw [el]; exact led, by rw [pl.length_eq, em]; exact room, by rw [pl.length_eq]; exact few, fun p hp => tk_but (tk p (pl.mem_iff.mp hp)) ho hd sb, ?_⟩ pl
  exact (pl.map (·.2)).nodup_iff.mpr nd

/-! ### one more -/
theorem tab_plain {t : SetTable} {rows : List Int} (T : TabOk t rows) (b : Bool) : TabOk { t with plain := b } rows := ⟨T.ris, T.dm, T.sz, T.mok, T.bd, T.reach⟩
theorem added (B : Bag P w s.heap a L es ep t) {x : Addr} {k : List Str} (hx : Tk P w s.heap k x) (hu : A.units < cLine) (few : L.length + 1 < 64) {Q : Bool → Shared → Prop}
    (q : ∀ b h' L' es' ep' t', Heap.SameBut a s.heap h' → Bag P w h' a L' es' ep' t' → (k ∈ L.map (·.2) → L' = L) → (k ∉ L.map (·.2) → L'.Perm ((x, k) :: L)) → Q b { s with heap := h' }) :
    wpAny (model P w) A (setAddHashed a (.ref x) (hs P w k)) Q E s := by
  obtain ⟨o, e1, e2, e3⟩ := B.ob
  have ld : ∀ {R : Array (Int × Value) × Nat × SetTable → Shared → Prop}, R (es, ep, t) s → wpAny (model P w) A (setState a) R E s := fun r => wpAny_setState_of e1 e3 B.fits r
  unfold setAddHashed
  refine wpAny_holding ?_
  rw [show 100000 = 99999 + 1 from rfl, setAddHashedIn_succ]
  refine wpAny_bind (ld ?_)
  dsimp only
  refine wp_if_neg (by simp [byScan, Value.scannable]) ?_
  try refine wpAny_bind (wpAny_pure ?_)
  refine wpAny_bind (sought B hx hu (fun m => wpAny_pure (q false s.heap L es ep t (Heap.SameBut.refl a s.heap) B (fun _ => rfl) fun z => absurd m z)) fun K m kn kb => wpAny_bind (ld ?_))
  dsimp only
  obtain ⟨p1, p2, T, p4, p5, _, _, _, p9⟩ := B.tab.put kn kb
  rw [List.length_map] at p9
  have tf0 : ∀ b, ({ (t.put (way t.mask (hs P w k) K)).1 with plain := b } : SetTable).fill = L.length + 1 := fun b => p9
  generalize t.put (way t.mask (hs P w k) K) = pt at *
  obtain ⟨t1, at_⟩ := pt
  dsimp only at *
  subst p1
  have rows1 : (SetTable.insertAt es (SetTable.below t.place (way t.mask (hs P w k) K)) (hs P w k, Value.ref x)).toList = (L.take (SetTable.below t.place (way t.mask (hs P w k) K)) ++ (x, k) :: L.drop (SetTable.below t.place (way t.mask (hs P w k) K))).map (row P w) := by
    rw [SetTable.toList_insertAt, B.rows, List.map_append, List.map_cons, List.map_take, List.map_drop]
    rfl
  have T1 : TabOk t1 ((L.take (SetTable.below t.place (way t.mask (hs P w k) K)) ++ (x, k) :: L.drop (SetTable.below t.place (way t.mask (hs P w k) K))).map fun p => hs P w p.2) := by
    rw [List.map_append, List.map_cons, List.map_take, List.map_drop]
    exact T
  have pm := put_perm L (SetTable.below t.place (way t.mask (hs P w k) K)) (x, k)
  generalize SetTable.insertAt es (SetTable.below t.place (way t.mask (hs P w k) K)) (hs P w k, Value.ref x) = es1 at rows1 ⊢
  generalize L.take (SetTable.below t.place (way t.mask (hs P w k) K)) ++ (x, k) :: L.drop (SetTable.below t.place (way t.mask (hs P w k) K)) = L1 at rows1 T1 pm
  have l1 : L1.length = L.length + 1 := pm.length_eq
  have nd1 : (L1.map (·.2)).Nodup := (pm.map (·.2)).nodup_iff.mpr (List.nodup_cons.mpr ⟨m, B.nd⟩)
  have rest : ∀ b : Bool, wpAny (model P w) A (do
      storeSet a es1 (if b then t1 else { t1 with plain := false })
      if !false && (if b then t1 else { t1 with plain := false } : SetTable).tooFull then setRelay a (SetTable.grown (es.size + 1))
      return true) Q E s := fun b => by
    have Tb : TabOk (if b then t1 else { t1 with plain := false } : SetTable) (L1.map fun p => hs P w p.2) := by
      cases b
      · exact tab_plain T1 false
      · exact T1
    have mb : (if b then t1 else { t1 with plain := false } : SetTable).mask = t.mask := by cases b <;> exact p4
    have lb : (if b then t1 else { t1 with plain := false } : SetTable).led = t.led := by cases b <;> exact p5
    have fb : (if b then t1 else { t1 with plain := false } : SetTable).fill = L.length + 1 := by cases b <;> exact p9
    generalize (if b then t1 else { t1 with plain := false } : SetTable) = t2 at Tb mb lb fb ⊢
    refine wpAny_bind (wpAny_storeSet_of e1 e3 ?_ (by rw [size_rows rows1, l1, sizeLine_eq]; omega))
    have sb : Heap.SameBut a s.heap (s.heap.update a (Obj.putSet es1 t2)) := Heap.SameBut.update ..
    have ho := store_at (es' := es1) (t' := t2) e1 e3
    generalize s.heap.update a (Obj.putSet es1 t2) = h1 at sb ho ⊢
    have tk1 : ∀ p ∈ L1, Tk P w h1 p.2 p.1 := fun p hp => by
      cases pm.mem_iff.mp hp with
      | head => exact tk_but hx e1 e3 sb
      | tail _ hp => exact tk_but (B.tk p hp) e1 e3 sb
    have rm := B.room
    by_cases full : t2.tooFull = true
    · have much : t2.mask * 3 ≤ (L.length + 1) * 5 := by
        unfold SetTable.tooFull at full
        rw [decide_eq_true_eq, fb] at full
        exact full
      have at2 : (t.mask = 7 ∧ L.length = 4) ∨ (t.mask = 31 ∧ L.length = 18) := by
        rcases B.tab.mok with e | e | e <;> rw [mb, e] at much <;> rw [e] at rm <;> omega
      have go : ∀ M, SetTable.sizeAbove (SetTable.grown (L.length + 1)) = M + 1 → MaskOk M → L1.length * 5 < M * 3 → wpAny (model P w) A (setRelay a (SetTable.grown (L.length + 1))) (fun _ s1 => wpAny (model P w) A (pure true) Q E s1) E { s with heap := h1 } := fun M z1 z2 z3 =>
        relaid_at (s := { s with heap := h1 }) ho ⟨e2.1, e2.2.1, e2.2.2⟩ rfl rows1 (by rw [Tb.sz, List.length_map]) Tb.dm (by rw [mb, l1]; rcases at2 with ⟨u, v⟩ | ⟨u, v⟩ <;> omega) (by rw [lb]; exact B.led) (by omega) tk1 nd1 z1 z2 z3
          fun h2 L2 es2 ep2 t2 sb2 B2 pm2 => wpAny_pure (q true h2 L2 es2 ep2 t2 (sb.trans sb2) B2 (fun z => absurd z m) fun _ => pm2.trans pm)
      rw [size_rows B.rows]
      have both : wpAny (model P w) A (setRelay a (SetTable.grown (L.length + 1))) (fun _ s1 => wpAny (model P w) A (pure true) Q E s1) E { s with heap := h1 } := by
        rcases at2 with ⟨_, v⟩ | ⟨_, v⟩
        · exact go 31 (by rw [v, size_20]) (.inr (.inl rfl)) (by omega)
        · exact go 127 (by rw [v, size_76]) (.inr (.inr rfl)) (by omega)
      simp only [Bool.not_false, full, Bool.and_self, if_true]
      exact wpAny_bind both
    · simp only [Bool.not_false, full, Bool.true_and, Bool.false_eq_true, if_false]
      refine wpAny_bind (wpAny_pure (wpAny_pure (q true h1 L1 es1 _ t2 sb ⟨⟨_, ho, ⟨e2.1, e2.2.1, e2.2.2⟩, rfl⟩, rows1, Tb, by rw [lb]; exact B.led, ?_, by omega, tk1, nd1⟩ (fun z => absurd z m) fun _ => pm)))
      unfold SetTable.tooFull at full
      rw [decide_eq_true_eq, fb] at full
      omega
  by_cases hp : t1.plain = true
  · refine wp_if_pos hp (wpAny_bind (byval_tk hx fun b => ?_))
    exact rest b
  · refine wp_if_neg hp (wpAny_bind (wpAny_pure ?_))
    exact rest true
end

/-! ### the whole of a tuple -/
/-- what a set has of the first i -/
structure Cov (ks : List (Addr × List Str)) (i : Nat) (L : List (Addr × List Str)) : Prop where
  mem : ∀ k, k ∈ L.map (·.2) ↔ k ∈ (ks.take i).map (·.2)
  le : L.length ≤ i
  full : L.length = i ↔ ((ks.take i).map (·.2)).Nodup
theorem Cov.nil (ks : List (Addr × List Str)) : Cov ks 0 [] := ⟨fun _ => Iff.rfl, Nat.le_refl _, by simp⟩
theorem Cov.more {ks L L' : List (Addr × List Str)} {i : Nat} {x : Addr × List Str} (c : Cov ks i L) (e : ks[i]? = some x) (h1 : x.2 ∈ L.map (·.2) → L' = L) (h2 : x.2 ∉ L.map (·.2) → L'.Perm ((x.1, x.2) :: L)) : Cov ks (i + 1) L' := by
  have tk : (ks.take (i + 1)).map (·.2) = (ks.take i).map (·.2) ++ [x.2] := by
    rw [List.take_add_one, e, List.map_append]
    rfl
  have nd : ((ks.take (i + 1)).map (·.2)).Nodup ↔ ((ks.take i).map (·.2)).Nodup ∧ x.2 ∉ L.map (·.2) := by
    rw [tk, List.nodup_append]
    constructor
    · rintro ⟨a, _, b⟩
      exact ⟨a, fun h => b _ ((c.mem _).mp h) _ (List.mem_singleton.mpr rfl) rfl⟩
    · rintro ⟨a, b⟩
      refine ⟨a, by simp, fun y hy z hz q => b ((c.mem _).mpr ?_)⟩
      rw [← List.mem_singleton.mp hz, ← q]
      exact hy
  by_cases h : x.2 ∈ L.map (·.2)
  · cases h1 h
    refine ⟨fun k => ?_, Nat.le_succ_of_le c.le, ?_⟩
    · rw [tk, List.mem_append, List.mem_singleton, ← c.mem]
      exact ⟨.inl, fun z => z.elim id fun z => z ▸ h⟩
    · rw [nd]
      have := c.le
      exact ⟨fun z => absurd z (by omega), fun z => absurd h z.2⟩
  · have pm := h2 h
    refine ⟨fun k => ?_, ?_, ?_⟩
    · rw [(pm.map (·.2)).mem_iff, List.map_cons, List.mem_cons, tk, List.mem_append, List.mem_singleton, ← c.mem]
      exact Or.comm
    · rw [pm.length_eq]
      exact Nat.succ_le_succ c.le
    · rw [nd, pm.length_eq, List.length_cons, Nat.succ_inj, c.full]
      exact ⟨fun z => ⟨z, h⟩, fun z => z.1⟩
section
variable {prog : Program} {w : World} {A : Around} {R : Result → Shared → Prop} {it : Addr} {fp wr : List Addr} {G : Array GenState → Array GenState → Prop} {n : Nat} {Pv : Nat → Value → Prop} {St : Nat → Shared → Prop}
theorem loopTk (W : WalksS prog w A.in1 it fp wr G n Pv St) (b : Addr) (hb : b ∉ fp) (ks : List (Addr × List Str)) (hn : ks.length = n) (few : n < 64) (hv : ∀ (i : Nat) v, Pv i v → ∃ p, ks[i]? = some p ∧ v = .ref p.1) (hu : A.in1.units < cLine)
    (old : Heap) (tk : ∀ p ∈ ks, Tk prog w old p.2 p.1) (nb : old.get? b = none) (nw : ∀ q ∈ wr, old.get? q = none) :
    ∀ (k i : Nat) (s : Shared), n - i = k → i ≤ n → St i s → (∀ q o, old.get? q = some o → s.heap.get? q = some o) → (∃ L es ep t, Cov ks i L ∧ (∀ p ∈ L, p ∈ ks) ∧ Bag prog w s.heap b L es ep t) →
      (∀ s' L es ep t, Moved (b :: wr) G s s' → Cov ks n L → Bag prog w s'.heap b L es ep t → R (.ok (.ret .none)) s') →
      codeAny (model prog w) A (.builtin "set.update.loop" ⟨[.ref b, .ref it], []⟩) R s := by
  have bw : b ∉ wr := fun h => hb (W.sub _ h)
  have ws : ∀ q ∈ wr, q ∈ b :: wr := fun q hq => List.mem_cons_of_mem _ hq
  have kept : ∀ {u v : Heap} {p : Addr × List Str}, Tk prog w u p.2 p.1 → (∀ q o, u.get? q = some o → v.get? q = some o) → Tk prog w v p.2 p.1 := fun ⟨o, its, c, e, r⟩ f => ⟨o, its, c, f _ _ e, r⟩
  have same : ∀ {s1 s2 : Shared} {L es ep t}, Bag prog w s1.heap b L es ep t → Moved wr G s1 s2 → (∀ p ∈ L, p ∈ ks) → (∀ q o, old.get? q = some o → s2.heap.get? q = some o) → Bag prog w s2.heap b L es ep t := fun {s1 s2 L es ep t} B mv sub up => by
    obtain ⟨o, e, r⟩ := B.ob
    exact ⟨⟨o, mv.heap b o bw e, r⟩, B.rows, B.tab, B.led, B.room, B.few, fun p hp => kept (tk p (sub p hp)) up, B.nd⟩
  have up : ∀ {s1 s2 : Shared}, Moved wr G s1 s2 → (∀ q o, old.get? q = some o → s1.heap.get? q = some o) → ∀ q o, old.get? q = some o → s2.heap.get? q = some o := fun mv f q o e => mv.heap q o (fun z => by rw [nw q z] at e; cases e) (f q o e)
  intro k
  induction k with
  | zero =>
    rintro i s hk hi st f ⟨L, es, ep, t, c, sub, B⟩ done
    obtain rfl : i = n := by omega
    refine codeAny_builtin PyProof.Rows.F.entry_set_update_loop ?_
    rw [Around.under_plainId PyProof.Rows.F.plain_set_update_loop _]
    refine wpAny_bind (m := pyNext (.ref it)) (W.done s _ _ st fun s1 mv => ?_)
    exact wpAny_pure (done s1 L es ep t (mv.mono ws) c (same B mv sub (up mv f)))
  | succ k ih =>
    rintro i s hk hi st f ⟨L, es, ep, t, c, sub, B⟩ done
    have lt : i < n := by omega
    refine codeAny_builtin PyProof.Rows.F.entry_set_update_loop ?_
    rw [Around.under_plainId PyProof.Rows.F.plain_set_update_loop _]
    refine wpAny_bind (m := pyNext (.ref it)) (W.item i s _ _ lt st fun v s1 pv st1 mv => ?_)
    obtain ⟨p, ei, rfl⟩ := hv i v pv
    have B1 := same B mv sub (up mv f)
    have tp := kept (tk p (List.mem_of_getElem? ei)) (up mv f)
    refine wpAny_bind (m := holding [Value.ref p.1] (setAdd b (.ref p.1))) (wpAny_holding ?_)
    unfold setAdd
    refine wpAny_holding (wpAny_bind (wpAny_pyHash_tuple hu tp ?_))
    refine added (s := { s1 with toks := s1.toks + (p.2.length + 1) }) B1 tp hu (by have := c.le; omega) fun z h' L' es' ep' t' sb B2 c1 c2 => ?_
    have subL : ∀ q ∈ L', q ∈ ks := fun q hq => by
      by_cases h : p.2 ∈ L.map (·.2)
      · exact sub q (c1 h ▸ hq)
      · cases (c2 h).mem_iff.mp hq with
        | head => exact List.mem_of_getElem? ei
        | tail _ hq => exact sub q hq
    refine wpAny_pure ⟨plainId_quiet PyProof.Rows.F.plain_set_update_loop _, ih (i + 1) _ (by omega) lt (W.frame _ s1 _ _ st1 (Nat.le_add_right _ _) fun q hq o e => ?_) (fun q o e => ?_) ⟨L', es', ep', t', c.more ei c1 c2, subL, B2⟩ fun s2 L2 es2 ep2 t2 mv2 c3 B3 => ?_⟩
    · exact (sb.2 q fun z => hb (z ▸ hq)).trans e
    · exact (sb.2 q fun z => by rw [z, nb] at e; cases e).trans (up mv f q o e)
    · refine done s2 L2 es2 ep2 t2 (Moved.trans W.gtrans ((mv.mono ws).then_heap (Nat.le_add_right _ _) fun q o hq e => ?_) mv2) c3 B3
      exact (sb.2 q fun z => hq (z ▸ List.mem_cons_self)).trans e
end
section
variable {prog : Program} {w : World} {A : Around} {E : Value → Shared → Prop} {s : Shared}
theorem new_bag {h : Heap} {a : Addr} {led : Bool} (ho : h.get? a = some (setObj led)) (hl : w.params.followText "set-order" = true ∨ led = true) : Bag prog w h a [] #[] 0 (.fresh 0 0 led) where
  ob := ⟨_, ho, ⟨rfl, rfl, rfl⟩, rfl⟩
  rows := rfl
  tab := ⟨List.Pairwise.nil, rfl, rfl, .inl rfl, (fun _ z => nomatch z), (fun i u j e => by simp at e)⟩
  led := hl
  room := by
    show 0 * 5 < 7 * 3
    decide
  few := (by decide : 0 < 64)
  tk := fun _ z => nomatch z
  nd := List.nodup_nil
def ledOf (w : World) : Bool := !w.params.followText "set-order"
theorem ledOf_or (w : World) : w.params.followText "set-order" = true ∨ ledOf w = true := by
  unfold ledOf
  cases w.params.followText "set-order"
  · exact .inr rfl
  · exact .inl rfl
theorem init_tk {l : Addr} {items : Array Value} {ks : List (Addr × List Str)} (hh : A.handled = none) (hl : s.heap.IsTuple l items) (hi : items.toList = ks.map fun p => Value.ref p.1) (tk : ∀ p ∈ ks, Tk prog w s.heap p.2 p.1) (few : ks.length < 64) (hu : A.units + 4 < cLine) :
    codeAny (model prog w) A (.call (.builtin "set.__init__") ⟨[.ref s.heap.objs.size, .ref l], []⟩)
      (wants (fun r s2 => r = .none ∧ ∃ h' n L es ep t, s2 = { s with heap := h', toks := n } ∧ Cov ks ks.length L ∧ Bag prog w h' s.heap.objs.size L es ep t ∧ (∀ q o, s.heap.get? q = some o → h'.get? q = some o)) E)
      { s with heap := s.heap.push (setObj (ledOf w)) } := by
  have hT : Shared.TypeIs { s with heap := s.heap.push (setObj (ledOf w)) } (.ref s.heap.objs.size) "set" := ⟨_, Heap.get?_push_size _ rfl, rfl⟩
  refine codeAny_call_builtin PySem.F.called_set.init.plain PySem.F.entry_set_init (check_set_init_1 hT ?_)
  obtain ⟨⟨kc, kd, kx, kz⟩, hol, hcl, nl, hdl⟩ := hl
  simp only at hcl hdl
  subst hcl hdl
  have hol' : (s.heap.push (setObj (ledOf w))).get? l = some _ := Heap.get?_push_of_some _ hol
  have hl1 : (s.heap.push (setObj (ledOf w))).IsTuple l items := ⟨_, hol', rfl, nl, rfl⟩
  have hsls := PySem.F.sub_tuple_set
  have hslf := PySem.F.sub_tuple_frozenset
  have hne : (Value.type "tuple" == Value.type "dict") = false := by decide
  unfold Builtin.«set.__init__» noKeywords Builtin.Frozenset.updateFrom
  generalize ePI : pyIter = PI
  wp_walk
  subst ePI
  refine wpAny_pyIter_tuple hl1 (wpAny_bind (wpAny_runValue ?_))
  have below : l < s.heap.objs.size := Heap.lt_size hol
  have nh : A.in1.in1.handled = none := by simp [hh]
  have z1 : (s.heap.push (setObj (ledOf w))).objs.size = s.heap.objs.size + 1 := Heap.size_push ..
  have apart : l ≠ (s.heap.push (setObj (ledOf w))).objs.size := by
    rw [z1]
    exact Nat.ne_of_lt (Nat.lt_succ_of_lt below)
  have out : s.heap.objs.size ∉ [(s.heap.push (setObj (ledOf w))).objs.size, l] := by
    rw [List.mem_cons, List.mem_singleton, z1]
    exact fun q => q.elim (Nat.ne_of_lt (Nat.lt_succ_self _)) (Nat.ne_of_gt below)
  have zx : ks.length = items.size := by rw [← Array.length_toList, hi, List.length_map]
  have void : ∀ q, s.heap.objs.size ≤ q → s.heap.get? q = none := fun q hq => by
    cases e : s.heap.get? q with
    | none => rfl
    | some o => exact absurd (Heap.lt_size e) (Nat.not_lt_of_le hq)
  refine loopTk ((Walks.tuple nh _ l apart items).toS) s.heap.objs.size out ks zx (zx ▸ few) (fun i v e => ?val) (by simp; omega) s.heap tk (void _ (Nat.le_refl _)) (fun q hq => void q (by rw [List.mem_singleton.mp hq, z1]; omega)) (items.size - 0) 0 _ (by omega) (Nat.zero_le _) ?at_ (fun q o e => Heap.get?_push_of_some _ (Heap.get?_push_of_some _ e)) ?first ?last
  case val =>
    have e : items.toList[i]? = some v := Array.getElem?_toList ▸ e
    rw [hi, List.getElem?_map] at e
    obtain ⟨p, e1, e2⟩ := Option.map_eq_some_iff.mp e
    exact ⟨p, e1, e2.symm⟩
  case at_ => exact ⟨⟨_, Heap.get?_push_size _ rfl, rfl, rfl⟩, hl1.push _⟩
  case first => exact ⟨[], #[], 0, _, Cov.nil ks, fun _ z => (nomatch z), new_bag (Heap.get?_push_of_some _ (Heap.get?_push_size _ rfl)) (ledOf_or w)⟩
  case last =>
    rintro ⟨h', g', d', tk', os'⟩ L es ep t mv c B
    obtain rfl : g' = s.gens := mv.gens
    obtain rfl : d' = s.drawn := mv.drawn
    obtain rfl : os' = s.os := mv.os
    refine wpAny_pure (wpAny_pure ⟨rfl, h', tk', L, es, ep, t, rfl, zx ▸ c, B, fun q o e => ?_⟩)
    have lq := Heap.lt_size e
    refine mv.heap q o (by rw [List.mem_cons, List.mem_singleton, z1]; exact fun z => z.elim (Nat.ne_of_lt lq) (Nat.ne_of_lt (Nat.lt_succ_of_lt lq))) (Heap.get?_push_of_some _ (Heap.get?_push_of_some _ e))
set_option maxHeartbeats 8000000 in
theorem call_set_tk {l : Addr} {items : Array Value} {ks : List (Addr × List Str)} {Q : Value → Shared → Prop} (hh : A.handled = none) (hl : s.heap.IsTuple l items) (hi : items.toList = ks.map fun p => Value.ref p.1) (tk : ∀ p ∈ ks, Tk prog w s.heap p.2 p.1) (few : ks.length < 64) (hu : A.units + 8 < cLine)
    (h : ∀ (h' : Heap) (n : Nat) L es ep t, Cov ks ks.length L → Bag prog w h' s.heap.objs.size L es ep t → (∀ q o, s.heap.get? q = some o → h'.get? q = some o) → Q (.ref s.heap.objs.size) { s with heap := h', toks := n }) :
    wpAny (model prog w) A (call (.type "set") [.ref l]) Q E s := by
  obtain ⟨_, _, hmro⟩ := PySem.F.called_set.mro
  have hmade := PySem.F.called_set.made
  have hsub := PySem.F.called_set.sub
  have h1 := PySem.F.called_set.notType
  have h2 := PySem.F.called_set.canCreate
  have hct := PySem.F.typeCall_set_1 (.ref l)
  refine wpAny_call (codeAny_of_tree (wpAny_pure (a := _) ⟨Code.quiet_builtin _ (by decide +kernel), codeAny_builtin PySem.F.entry_type_call ?_⟩))
  rw [Around.under_plain (weight_type_call_type "set" [.ref l] []) rfl]
  repeat (any_goals (first | assumption | wp_step))
  refine codeAny_mono (code_set_led1 (.ref l) (E := E) (Q₁ := fun v s1 => v = .ref s.heap.objs.size ∧ s1 = { s with heap := s.heap.push (setObj (ledOf w)) }) ⟨rfl, rfl⟩) fun r s1 hr => ?_
  match r, hr with
  | .ok (.ret v), hr =>
    obtain ⟨rfl, rfl⟩ := hr
    have hS : (s.heap.push (setObj (ledOf w))).get? s.heap.objs.size = some (setObj (ledOf w)) := Heap.get?_push_size _ rfl
    have hT : Shared.TypeIs { s with heap := s.heap.push (setObj (ledOf w)) } (.ref s.heap.objs.size) "set" := ⟨_, hS, rfl⟩
    have hli := PySem.F.called_set.init.lookup
    have hbi := PySem.F.called_set.init.bind (.ref s.heap.objs.size)
    repeat (any_goals (first | assumption | wp_step))
    refine codeAny_mono (init_tk (E := E) (by simp [hh]) hl hi tk few (by simp; omega)) fun r s2 hr => ?_
    match r, hr with
    | .ok (.ret v), hr =>
      obtain ⟨rfl, h', n, L, es, ep, t, rfl, c, B, keep⟩ := hr
      repeat (any_goals (first | assumption | wp_step))
      exact h h' n L es ep t c B keep
    | .error e, hr => exact hr
    | .ok .next, hr => exact hr.elim
    | .ok .brk, hr => exact hr.elim
    | .ok .cont, hr => exact hr.elim
  | .error e, hr => exact hr
  | .ok .next, hr => exact hr.elim
  | .ok .brk, hr => exact hr.elim
  | .ok .cont, hr => exact hr.elim
end
theorem items_tk {P : Program} {w : World} : ∀ {k : List Str} {us : List Value}, Vals (k.map V.str) us → ItemsAre (PySem.strKind P w) k us
  | [], _, .nil => .nil
  | _ :: _, _, .cons r t => by
    obtain ⟨z, rfl⟩ := r
    exact .cons (strKind_is _ _ _ _) (items_tk t)
theorem refs_tk : ∀ {ks : List (Addr × List Str)} {us : List Value}, Vals (ks.map fun p => V.ref p.1) us → us = ks.map fun p => Value.ref p.1
  | [], _, .nil => rfl
  | _ :: _, _, .cons r t => by
    cases r
    exact congrArg _ (refs_tk t)
/-- len(set(t)), t a tuple of tuples of texts -/
def tLenSetTk (K : PySem.W.Frag) (ta : TE) : TE := fun σ H Q => ta σ H fun x H1 => ∃ (l : Addr) (ks : List (Addr × List Str)), x = .ref l ∧ SqT K H1 l (ks.map fun p => V.ref p.1) ∧ (∀ p ∈ ks, SqT K H1 p.1 (p.2.map V.str)) ∧ ks.length < 64 ∧ ∀ c : Nat, c ≤ ks.length → (c = ks.length ↔ (ks.map (·.2)).Nodup) → Q (.int c) H1
theorem pe_lenSetTk {X : Cx} {a : Expr} {ta : TE} {p p2 q pos : Pos} (hg : Gl X "len") (hm : X.mg "len" = none) (hg2 : Gl X "set") (hm2 : X.mg "set" = none) (hu : X.A.units + 64 < cLine) (ha : PE X a ta) (hc : X.calm = true := by rfl)
    (na : starEach [a] X.env = (false, eval a X.env) :: starEach [] X.env := by rfl) : PE X (.Call (.Name "len" p) [.Call (.Name "set" p2) [a] [] q] [] pos) (tLenSetTk X.K ta) := by
  refine ⟨fun pins s σ H Q I h => Call_ (ld_blt I hg hm boot_len (PyProof.Rows.callWith_builtin1 (PyProof.Rows.args_cons (Call_ (ld_blt I hg2 hm2 boot_set (PyProof.Rows.callWith_type1 (PyProof.Rows.args_cons (thn (ha.run pins s σ H _ I h) fun v s1 ⟨x, H1, I1, r1, q1⟩ => PyProof.Rows.args_nil ?_) na) na rfl))) rfl) rfl rfl))⟩
  obtain ⟨l, ks, rfl, ht, hk, few, q1⟩ := q1
  obtain rfl : v = Value.ref l := r1
  obtain ⟨its, rv, pl, _⟩ := I1.tuple ht
  refine call_set_tk (ks := ks) (I1.ok.hd hc) pl (by simpa using refs_tk rv) (fun p hp => ?_) few (by omega) fun h' n L es ep t c B keep => PyProof.Rows.args_nil ?_
  · obtain ⟨us, r, ⟨o, e1, e2, m, e3⟩, _⟩ := I1.tuple (hk p hp)
    exact ⟨o, us.toArray, m, e1, e2, e3, by simpa using items_tk r⟩
  · have I2 : Inv X pins σ H1 { s1 with heap := h', toks := n } := I1.kept keep
    obtain ⟨o, e1, e2, e3⟩ := B.ob
    have z := c.full
    rw [List.take_length] at z
    exact call_len_set e1 e2 e3 (fits_of B.rows (by rw [B.tab.sz, List.length_map]) B.tab.dm (by have := B.room; omega)) (by rw [size_rows B.rows]; have := B.few; omega) ⟨.int L.length, H1, I2.tok _, ⟨_, by rw [size_rows B.rows]⟩, q1 L.length c.le z⟩
end El

set_option Elab.async false
set_option linter.all false
set_option maxRecDepth 100000
set_option maxHeartbeats 4000000
/-! Own words: `in`, `not in` for pairs of texts in tuples and lists of such, `==` of such pairs; keyword-only parameters with defaults. -/
namespace El
open PySem PySem.Spec PyProof.Rows L2
theorem dec_iff {p : Prop} {i : Decidable p} : @decide p i = true ↔ p := decide_eq_true_iff
section
variable {X : Cx}
/-- the tuple (a, b) of texts -/
def PairAt (K : PySem.W.Frag) (H : Hp) (v : V) (p : Str × Str) : Prop := ∃ r, v = .ref r ∧ SqT K H r [.str p.1, .str p.2]
/-- a row of such -/
inductive PairsIn (K : PySem.W.Frag) (H : Hp) : List V → List (Str × Str) → Prop
  | nil : PairsIn K H [] []
  | cons {v : V} {p : Str × Str} {vs : List V} {ps : List (Str × Str)} : PairAt K H v p → PairsIn K H vs ps → PairsIn K H (v :: vs) (p :: ps)
theorem PairAt.dp {K : PySem.W.Frag} {H : Hp} {v : V} {p : Str × Str} (h : PairAt K H v p) : Dp K H v (PySem.W.Datum.toD p) := by
  obtain ⟨r, rfl, h⟩ := h
  exact .tup h (.cons (.str _) (.cons (.str _) .nil))
theorem PairsIn.dp {K : PySem.W.Frag} {H : Hp} {vs : List V} {ps : List (Str × Str)} (h : PairsIn K H vs ps) : DpAll K H vs (ps.map PySem.W.Datum.toD) := by
  induction h with
  | nil => exact .nil
  | cons a _ ih => exact .cons a.dp ih
def rInP (K : PySem.W.Frag) (neg : Bool) : R2 := fun x y H Q => ∃ (p : Str × Str) (l : Addr) (vs : List V) (ps : List (Str × Str)), PairAt K H x p ∧ y = .ref l ∧ (SqT K H l vs ∨ SqL K H l vs) ∧ PairsIn K H vs ps ∧ Q (.bl (if neg then decide (p ∉ ps) else decide (p ∈ ps))) H
theorem op_inP (K : PySem.W.Frag) (neg : Bool) (hu : X.A.units + 64 < cLine) (hK : X.K = K := by rfl) : OpR X (compareOp (if neg then .NotIn else .In)) (rInP K neg) := by
  subst hK
  intro pins s σ H x y v u Q I rx ry h
  obtain ⟨p, l, vs, ps, hp, rfl, hl, hv, q⟩ := h
  obtain ⟨bs, rd⟩ := Dp.reads I _ x v hp.dp rx
  have dep : PySem.W.Datum.depth (Str × Str) ≤ 2 := by decide
  have any_ : ((ps.map PySem.W.Datum.toD).any fun d => PyData.eqv d (PySem.W.Datum.toD p)) = true ↔ p ∈ ps := by
    have z := PySem.W.any_datum ps p
    exact (Bool.eq_iff_iff.mp z).trans dec_iff
  have room : X.A.units + 1 + min (PyData.depthAll (ps.map PySem.W.Datum.toD)) (PySem.W.Datum.toD p).depth < cLine := by
    have := PySem.W.Datum.depth_le p
    have := Nat.min_le_right (PyData.depthAll (ps.map PySem.W.Datum.toD)) (PySem.W.Datum.toD p).depth
    omega
  have yes : ∀ b : Bool, (b = true ↔ p ∈ ps) → b = decide (p ∈ ps) := fun b hb => by rw [Bool.eq_iff_iff, hb, decide_eq_true_iff]
  have no : ∀ b : Bool, (b = true ↔ p ∈ ps) → (!b) = decide (p ∉ ps) := fun b hb => by rw [yes b hb, decide_not]
  rcases hl with hl | hl
  · obtain ⟨as, rc⟩ := Dp.reads I _ (.ref l) u (.tup hl hv.dp) ry
    cases neg
    · exact PySem.SeqAt.in_tuple_data rc rd (PySem.W.plainAll_map ps) (PySem.W.Datum.plain p) room (by rw [yes _ any_]; exact ⟨.bl _, H, I, rfl, q⟩)
    · exact PySem.SeqAt.notIn_tuple_data rc rd (PySem.W.plainAll_map ps) (PySem.W.Datum.plain p) room (by rw [no _ any_]; exact ⟨.bl _, H, I, rfl, q⟩)
  · obtain ⟨as, rc⟩ := Dp.reads I _ (.ref l) u (.lst hl hv.dp) ry
    cases neg
    · exact PySem.SeqAt.in_list_data rc rd (PySem.W.plainAll_map ps) (PySem.W.Datum.plain p) room (by rw [yes _ any_]; exact ⟨.bl _, H, I, rfl, q⟩)
    · exact PySem.SeqAt.notIn_list_data rc rd (PySem.W.plainAll_map ps) (PySem.W.Datum.plain p) room (by rw [no _ any_]; exact ⟨.bl _, H, I, rfl, q⟩)
theorem inP (K : PySem.W.Frag) (hu : X.A.units + 64 < cLine) (hK : X.K = K := by rfl) : OpR X (compareOp .In) (rInP K false) := op_inP K false hu hK
theorem notInP (K : PySem.W.Frag) (hu : X.A.units + 64 < cLine) (hK : X.K = K := by rfl) : OpR X (compareOp .NotIn) (rInP K true) := op_inP K true hu hK
def rEqP (K : PySem.W.Frag) : R2 := fun x y H Q => ∃ p q : Str × Str, PairAt K H x p ∧ PairAt K H y q ∧ Q (.bl (decide (p = q))) H
theorem eqP (K : PySem.W.Frag) (hu : X.A.units + 64 < cLine) (hK : X.K = K := by rfl) : OpR X (compareOp .Eq) (rEqP K) := by
  subst hK
  intro pins s σ H x y v u Q I rx ry h
  obtain ⟨p, q, hp, hq, k⟩ := h
  obtain ⟨as, ra⟩ := Dp.reads I _ x v hp.dp rx
  obtain ⟨bs, rb⟩ := Dp.reads I _ y u hq.dp ry
  have dep : PySem.W.Datum.depth (Str × Str) ≤ 2 := by decide
  have := PySem.W.Datum.depth_le p
  have := Nat.min_le_left (PySem.W.Datum.toD p).depth (PySem.W.Datum.toD q).depth
  exact PySem.SeqAt.eq_plain ra rb (PySem.W.Datum.plain p) (PySem.W.Datum.plain q) (by omega) (by rw [PySem.W.Datum.eqv]; exact ⟨.bl _, H, I, rfl, k⟩)
/-- len(set(t)), t a tuple of pairs of texts -/
def tLenSetP (K : PySem.W.Frag) (ta : TE) : TE := fun σ H Q => ta σ H fun x H1 => ∃ (l : Addr) (vs : List V) (ps : List (Str × Str)), x = .ref l ∧ SqT K H1 l vs ∧ PairsIn K H1 vs ps ∧ ps.length < 64 ∧ ∀ c : Nat, c ≤ ps.length → (c = ps.length ↔ ps.Nodup) → Q (.int c) H1
theorem pairs_ks {K : PySem.W.Frag} {H : Hp} {vs : List V} {ps : List (Str × Str)} (h : PairsIn K H vs ps) : ∃ ks : List (Addr × List Str), vs = ks.map (fun p => V.ref p.1) ∧ (∀ p ∈ ks, SqT K H p.1 (p.2.map V.str)) ∧ ks.map (·.2) = ps.map fun p => [p.1, p.2] := by
  induction h with
  | nil => exact ⟨[], rfl, fun _ z => (nomatch z), rfl⟩
  | @cons v p vs ps a _ ih =>
    obtain ⟨r, rfl, h⟩ := a
    obtain ⟨ks, e1, e2, e3⟩ := ih
    refine ⟨(r, [p.1, p.2]) :: ks, by rw [e1]; rfl, fun q hq => ?_, by rw [List.map_cons, List.map_cons, e3]⟩
    cases hq with
    | head => exact h
    | tail _ hq => exact e2 q hq
theorem nodup_map_inj {α β : Type} {f : α → β} (hf : ∀ a b, f a = f b → a = b) {l : List α} : (l.map f).Nodup ↔ l.Nodup :=
  ⟨fun h => List.Pairwise.of_map f (fun _ _ n e => n (congrArg f e)) h, fun h => List.pairwise_map.mpr (List.Pairwise.imp (fun n e => n (hf _ _ e)) h)⟩
theorem pe_lenSetP {a : Expr} {ta : TE} {p p2 q pos : Pos} (K : PySem.W.Frag) (hg : Gl X "len") (hm : X.mg "len" = none) (hg2 : Gl X "set") (hm2 : X.mg "set" = none) (hu : X.A.units + 64 < cLine) (ha : PE X a ta) (hc : X.calm = true := by rfl)
    (na : starEach [a] X.env = (false, eval a X.env) :: starEach [] X.env := by rfl) (hK : X.K = K := by rfl) : PE X (.Call (.Name "len" p) [.Call (.Name "set" p2) [a] [] q] [] pos) (tLenSetP K ta) := by
  subst hK
  refine ⟨fun pins s σ H Q I h => Call_ (ld_blt I hg hm boot_len (PyProof.Rows.callWith_builtin1 (PyProof.Rows.args_cons (Call_ (ld_blt I hg2 hm2 boot_set (PyProof.Rows.callWith_type1 (PyProof.Rows.args_cons (thn (ha.run pins s σ H _ I h) fun v s1 ⟨x, H1, I1, r1, q1⟩ => PyProof.Rows.args_nil ?_) na) na rfl))) rfl) rfl rfl))⟩
  obtain ⟨l, vs, ps, rfl, ht, hv, few, q1⟩ := q1
  obtain ⟨ks, rfl, hk, e3⟩ := pairs_ks hv
  have el : ks.length = ps.length := by
    have := congrArg List.length e3
    rwa [List.length_map, List.length_map] at this
  obtain rfl : v = Value.ref l := r1
  obtain ⟨its, rv, pl, _⟩ := I1.tuple ht
  refine call_set_tk (ks := ks) (I1.ok.hd hc) pl (by simpa using refs_tk rv) (fun p hp => ?_) (by omega) (by omega) fun h' n L es ep t c B keep => PyProof.Rows.args_nil ?_
  · obtain ⟨us, r, ⟨o, e1, e2, m, e3⟩, _⟩ := I1.tuple (hk p hp)
    exact ⟨o, us.toArray, m, e1, e2, e3, by simpa using items_tk r⟩
  · have I2 : Inv X pins σ H1 { s1 with heap := h', toks := n } := I1.kept keep
    obtain ⟨o, e1, e2, e4⟩ := B.ob
    have z := c.full
    rw [List.take_length] at z
    have c1 := c.le
    refine call_len_set e1 e2 e4 (fits_of B.rows (by rw [B.tab.sz, List.length_map]) B.tab.dm (by have := B.room; omega)) (by rw [size_rows B.rows]; have := B.few; omega) ⟨.int L.length, H1, I2.tok _, ⟨_, by rw [size_rows B.rows]⟩, q1 L.length (by omega) ?_⟩
    rw [← el, z, e3]
    exact nodup_map_inj fun a b e => by
      injection e with e1 e2
      injection e2 with e2 _
      exact Prod.ext e1 e2
end

/-! ### two keyword-only parameters with defaults -/
structure Kw2 (K : PySem.W.Frag) (fd : FuncData) (ps : List Str) (n : Nat) (k1 k2 : Str) (d1 d2 : V) : Prop where
  no : ∃ g, KBn K fd ps n [] g (fun vs _ => vs ++ [d1, d2])
  one : ∃ g, KBn K fd ps n [k1] g (fun vs zs => vs ++ (zs ++ [d2]))
  two : ∃ g, KBn K fd ps n [k2] g (fun vs zs => vs ++ (d1 :: zs))
  all : ∃ g, KBn K fd ps n [k1, k2] g (fun vs zs => vs ++ zs)
theorem Vals.app {vs ws : List V} {us xs : List Value} (a : Vals vs us) (b : Vals ws xs) : Vals (vs ++ ws) (us ++ xs) := by
  induction a with
  | nil => exact b
  | cons r _ ih => exact .cons r ih
theorem kw2_mk {K : PySem.W.Frag} {x qual : Str} {params : Arguments} {body : List Stmt} {scope : Scope} {f : Addr} {fd : FuncData} {ps : List Str} {k1 k2 : Str} {d1 d2 : V} (n : Nat) (F : FunD K x qual params body scope [] [(k1, d1), (k2, d2)] f fd)
    (h0 : ∀ (D : Addr) (doc pm : Value) (an : Option Addr) (cdv ct : Value) (us : List Value) (m1 m2 : Value), us.length = n → KwChain D [(k1, m1), (k2, m2)] (bindArgs (PySem.W.fnOf x qual params body scope .none (.ref D) doc pm an cdv ct) ⟨us, []⟩) (ps.zip (us ++ [m1, m2])))
    (h1 : ∀ (D : Addr) (doc pm : Value) (an : Option Addr) (cdv ct : Value) (us : List Value) (m2 w1 : Value), us.length = n → KwChain D [(k2, m2)] (bindArgs (PySem.W.fnOf x qual params body scope .none (.ref D) doc pm an cdv ct) ⟨us, [(k1, w1)]⟩) (ps.zip (us ++ [w1, m2])))
    (h2 : ∀ (D : Addr) (doc pm : Value) (an : Option Addr) (cdv ct : Value) (us : List Value) (m1 w2 : Value), us.length = n → KwChain D [(k1, m1)] (bindArgs (PySem.W.fnOf x qual params body scope .none (.ref D) doc pm an cdv ct) ⟨us, [(k2, w2)]⟩) (ps.zip (us ++ [m1, w2])))
    (h3 : ∀ (D : Addr) (doc pm : Value) (an : Option Addr) (cdv ct : Value) (us : List Value) (w1 w2 : Value), us.length = n → KwChain D [] (bindArgs (PySem.W.fnOf x qual params body scope .none (.ref D) doc pm an cdv ct) ⟨us, [(k1, w1), (k2, w2)]⟩) (ps.zip (us ++ [w1, w2]))) :
    Kw2 K fd ps n k1 k2 d1 d2 where
  no := by
    obtain ⟨mv, h⟩ := F.kbinds0 n [] [(k1, d1), (k2, d2)] (fun us ms _ => us ++ ms) (by simp) (fun q h => h) (fun a b _ => Vals.app a b) fun D doc pm an cdv ct us mv ws l1 l2 l3 => match mv, ws, l2, l3 with | [m1, m2], [], _, _ => h0 D doc pm an cdv ct us m1 m2 l1
    exact ⟨_, h⟩
  one := by
    obtain ⟨mv, h⟩ := F.kbinds0 n [k1] [(k2, d2)] (fun us ms ws => us ++ (ws ++ ms)) (by simp) (fun q h => List.mem_cons_of_mem _ h) (fun a b c => Vals.app a (Vals.app c b)) fun D doc pm an cdv ct us mv ws l1 l2 l3 => match mv, ws, l2, l3 with | [m2], [w1], _, _ => h1 D doc pm an cdv ct us m2 w1 l1
    exact ⟨_, h⟩
  two := by
    obtain ⟨mv, h⟩ := F.kbinds0 n [k2] [(k1, d1)] (fun us ms ws => us ++ (ms ++ ws)) (by simp) (fun q h => by rw [List.mem_singleton.mp h]; exact List.mem_cons_self) (fun a b c => Vals.app a (Vals.app b c)) fun D doc pm an cdv ct us mv ws l1 l2 l3 => match mv, ws, l2, l3 with | [m1], [w2], _, _ => h2 D doc pm an cdv ct us m1 w2 l1
    exact ⟨_, h⟩
  all := by
    obtain ⟨mv, h⟩ := F.kbinds0 n [k1, k2] [] (fun us ms ws => us ++ ws) (by simp) (fun q h => nomatch h) (fun a b c => Vals.app a c) fun D doc pm an cdv ct us mv ws l1 l2 l3 => match mv, ws, l2, l3 with | [], [w1, w2], _, _ => h3 D doc pm an cdv ct us w1 w2 l1
    exact ⟨_, h⟩
/-- a def of the text with two keyword-only parameters that have defaults -/
theorem fundk_mk {K : PySem.W.Frag} {x qual k1 k2 : Str} {st : Stmt} {f D e1 e2 : Addr} {oc : Value} {od an : Option Addr} {osl : Array (Option Value)} {doc pm cdv ct : Value}
    (l : K.lookup f = some ⟨oc, od, .func (PySem.W.fnOf x qual (defArgs st) (defBody st) (defScope st) .none (.ref D) doc pm an cdv ct), osl⟩) (c : PySem.W.codeIn K cdv qual = true) (k : PySem.W.keepIn K (.ref f) = true)
    (h1 : PySem.W.nsIn K D k1 = some (some (.ref e1))) (h2 : PySem.W.nsIn K D k2 = some (some (.ref e2))) : FunD K x qual (defArgs st) (defBody st) (defScope st) [] [(k1, V.ref e1), (k2, V.ref e2)] f (PySem.W.fnOf x qual (defArgs st) (defBody st) (defScope st) .none (.ref D) doc pm an cdv ct) := by
  refine ⟨⟨oc, od, .none, .ref D, doc, pm, an, cdv, ct, osl, rfl, l, c, .inl ⟨rfl, rfl⟩, .inr ⟨D, rfl, fun q hq => ?_⟩⟩, k⟩
  cases hq with
  | head => exact ⟨_, h1, rfl⟩
  | tail _ hq =>
    cases hq with
    | head => exact ⟨_, h2, rfl⟩
    | tail _ hq => exact nomatch hq
/-- a class whose __init__ has two keyword-only parameters, their defaults empty tuples -/
structure CalK (P : Program) (w : World) (K : PySem.W.Frag) (mg : Str → Option Value) (base : Heap) (CX : CXT) (k : Nat) (x : Str) (C f : Addr) (fd : FuncData) (ps : List Str) (n : Nat) (k1 k2 : Str) (e1 e2 : Addr) (sp : Sp) : Prop where
  G : FnOk P w K mg base CX k f fd ps sp
  b : Kw2 K fd ps n k1 k2 (.ref e1) (.ref e2)
  mkc : Mk K C f
  m : mg x = some (.ref C)
  t1 : ∀ H, SqT K H e1 []
  t2 : ∀ H, SqT K H e2 []
section
variable {X : Cx} {CX : CXT} {k : Nat} {C f e1 e2 : Addr} {fd : FuncData} {ps : List Str} {sp : Sp} {E : XK} {x k1 k2 : Str} {p pos : Pos} {e : Expr} {es : List Expr} {t tk : TA} {kws : List Keyword} {n : Nat}
theorem pe_mkNo (c : CalK X.prog X.w X.K X.mg X.base CX k x C f fd ps (n + 1) k1 k2 e1 e2 sp) (hr : Room (k + 1) X.A) (hg : Gl X x) (hx : Passes CX X E) (ha : PA X (e :: es) t) (hkw : PK X [] tk) (hdb : (x == ("__debug__" : Str)) = false := by decide)
    (he : starEach (e :: es) X.env = (false, eval e X.env) :: starEach es X.env := by rfl) (hpl : ((backTo pos (starEach (e :: es) X.env)).any (·.1) || (backToKw pos (keywordEach [] X.env)).any (·.1.isNone)) = false := by rfl) (hall : (backToKw pos (keywordEach [] X.env)).all (·.1.isSome) = true := by rfl) (hks : (backToKw pos (keywordEach [] X.env)).filterMap (·.1) = [] := by rfl) :
    PE X (.Call (.Name x p) (e :: es) [] pos) (tMakeK C n 0 sp (fun vs _ => vs ++ [.ref e1, .ref e2]) E t tk) := by
  obtain ⟨g, hb⟩ := c.b.no
  exact pe_makeK c.mkc c.G hr hg c.m hb hx ha hkw hall hks hdb he hpl
theorem pe_mkOne (c : CalK X.prog X.w X.K X.mg X.base CX k x C f fd ps (n + 1) k1 k2 e1 e2 sp) (hr : Room (k + 1) X.A) (hg : Gl X x) (hx : Passes CX X E) (ha : PA X (e :: es) t) (hkw : PK X kws tk) (hdb : (x == ("__debug__" : Str)) = false := by decide)
    (he : starEach (e :: es) X.env = (false, eval e X.env) :: starEach es X.env := by rfl) (hpl : ((backTo pos (starEach (e :: es) X.env)).any (·.1) || (backToKw pos (keywordEach kws X.env)).any (·.1.isNone)) = false := by rfl) (hall : (backToKw pos (keywordEach kws X.env)).all (·.1.isSome) = true := by rfl) (hks : (backToKw pos (keywordEach kws X.env)).filterMap (·.1) = [k1] := by rfl) :
    PE X (.Call (.Name x p) (e :: es) kws pos) (tMakeK C n 1 sp (fun vs zs => vs ++ (zs ++ [.ref e2])) E t tk) := by
  obtain ⟨g, hb⟩ := c.b.one
  exact pe_makeK c.mkc c.G hr hg c.m hb hx ha hkw hall hks hdb he hpl
theorem pe_mkTwo (c : CalK X.prog X.w X.K X.mg X.base CX k x C f fd ps (n + 1) k1 k2 e1 e2 sp) (hr : Room (k + 1) X.A) (hg : Gl X x) (hx : Passes CX X E) (ha : PA X (e :: es) t) (hkw : PK X kws tk) (hdb : (x == ("__debug__" : Str)) = false := by decide)
    (he : starEach (e :: es) X.env = (false, eval e X.env) :: starEach es X.env := by rfl) (hpl : ((backTo pos (starEach (e :: es) X.env)).any (·.1) || (backToKw pos (keywordEach kws X.env)).any (·.1.isNone)) = false := by rfl) (hall : (backToKw pos (keywordEach kws X.env)).all (·.1.isSome) = true := by rfl) (hks : (backToKw pos (keywordEach kws X.env)).filterMap (·.1) = [k2] := by rfl) :
    PE X (.Call (.Name x p) (e :: es) kws pos) (tMakeK C n 1 sp (fun vs zs => vs ++ (.ref e1 :: zs)) E t tk) := by
  obtain ⟨g, hb⟩ := c.b.two
  exact pe_makeK c.mkc c.G hr hg c.m hb hx ha hkw hall hks hdb he hpl
theorem pe_mkAll (c : CalK X.prog X.w X.K X.mg X.base CX k x C f fd ps (n + 1) k1 k2 e1 e2 sp) (hr : Room (k + 1) X.A) (hg : Gl X x) (hx : Passes CX X E) (ha : PA X (e :: es) t) (hkw : PK X kws tk) (hdb : (x == ("__debug__" : Str)) = false := by decide)
    (he : starEach (e :: es) X.env = (false, eval e X.env) :: starEach es X.env := by rfl) (hpl : ((backTo pos (starEach (e :: es) X.env)).any (·.1) || (backToKw pos (keywordEach kws X.env)).any (·.1.isNone)) = false := by rfl) (hall : (backToKw pos (keywordEach kws X.env)).all (·.1.isSome) = true := by rfl) (hks : (backToKw pos (keywordEach kws X.env)).filterMap (·.1) = [k1, k2] := by rfl) :
    PE X (.Call (.Name x p) (e :: es) kws pos) (tMakeK C n 2 sp (fun vs zs => vs ++ zs) E t tk) := by
  obtain ⟨g, hb⟩ := c.b.all
  exact pe_makeK c.mkc c.G hr hg c.m hb hx ha hkw hall hks hdb he hpl
end
end El

set_option Elab.async false
set_option linter.all false
set_option maxRecDepth 100000
set_option maxHeartbeats 4000000
/-! Own words: len(set(xs)) of a list or a tuple of any number of texts. -/
namespace El
open PySem PySem.Spec PyProof.Rows L2
section
variable {prog : Program} {w : World} {A : Around} {E : Value → Shared → Prop} {s : Shared}
/-- what set.__init__ does to a new set with a list of texts -/
theorem init_txL {l : Addr} {items : Array Value} {xs : List Str} {led : Bool} (hh : A.handled = none) (hl : s.heap.IsList l items) (hi : PyProof.Rows.StrsAre items.toList xs) (hx : xs.length + 1 < scanBound) :
    codeAny (model prog w) A (.call (.builtin "set.__init__") ⟨[.ref s.heap.objs.size, .ref l], []⟩)
      (wants (fun r s2 => r = .none ∧ ∃ h' tk c, s2 = { s with heap := h', toks := tk } ∧ Cnt xs xs.length c ∧ h'.SetOf (PySem.strKind prog w) s.heap.objs.size (Has xs xs.length) c ∧ (∀ q o, s.heap.get? q = some o → h'.get? q = some o)) E)
      { s with heap := s.heap.push (setObj led) } := by
  have hT : Shared.TypeIs { s with heap := s.heap.push (setObj led) } (.ref s.heap.objs.size) "set" := ⟨_, Heap.get?_push_size _ rfl, rfl⟩
  refine codeAny_call_builtin PySem.F.called_set.init.plain PySem.F.entry_set_init (check_set_init_1 hT ?_)
  obtain ⟨⟨kc, kd, kx, ks⟩, hol, hcl, nl, hdl⟩ := hl
  simp only at hcl hdl
  subst hcl hdl
  have hol' : (s.heap.push (setObj led)).get? l = some _ := Heap.get?_push_of_some _ hol
  have hl1 : (s.heap.push (setObj led)).IsList l items := ⟨_, hol', rfl, nl, rfl⟩
  have hsls := PySem.F.sub_list_set
  have hslf := PySem.F.sub_list_frozenset
  have hne : (Value.type "list" == Value.type "dict") = false := by decide
  unfold Builtin.«set.__init__» noKeywords Builtin.Frozenset.updateFrom
  generalize ePI : pyIter = PI
  wp_walk
  subst ePI
  refine wpAny_pyIter_list hl1 (wpAny_bind (wpAny_runValue ?_))
  have below : l < s.heap.objs.size := Heap.lt_size hol
  have nh : A.in1.in1.handled = none := by simp [hh]
  have z1 : (s.heap.push (setObj led)).objs.size = s.heap.objs.size + 1 := Heap.size_push ..
  have apart : l ≠ (s.heap.push (setObj led)).objs.size := by
    rw [z1]
    exact Nat.ne_of_lt (Nat.lt_succ_of_lt below)
  have out : s.heap.objs.size ∉ [(s.heap.push (setObj led)).objs.size, l] := by
    rw [List.mem_cons, List.mem_singleton, z1]
    exact fun q => q.elim (Nat.ne_of_lt (Nat.lt_succ_self _)) (Nat.ne_of_gt below)
  have zx : xs.length = items.size := by rw [← StrsAre.len_eq hi, Array.length_toList]
  refine loopTx ((Walks.list nh _ l apart items).toS) s.heap.objs.size out xs zx (zx ▸ hx) (fun i v e => SS.strs_at hi i v (Array.getElem?_toList ▸ e)) (items.size - 0) 0 _ (by omega) (Nat.zero_le _) ?at_ ?first ?last
  case at_ => exact ⟨⟨_, Heap.get?_push_size _ rfl, rfl, rfl⟩, hl1.push _⟩
  case first =>
    refine ⟨0, Cnt.nil xs, ?_⟩
    refine SetOf_congr ((PyProof.Rows.setObjOf_fresh (knd := PySem.strKind prog w) led).setOf (Heap.get?_push_of_some _ (Heap.get?_push_size _ rfl)) (by unfold scanBound; omega)) (fun y => ?_) rfl
    rfl
  case last =>
    rintro ⟨h', g', d', tk', os'⟩ c mv hc ho
    obtain rfl : g' = s.gens := mv.gens
    obtain rfl : d' = s.drawn := mv.drawn
    obtain rfl : os' = s.os := mv.os
    refine wpAny_pure (wpAny_pure ⟨rfl, h', tk', c, rfl, zx ▸ hc, zx ▸ ho, fun q o e => ?_⟩)
    have lq := Heap.lt_size e
    refine mv.heap q o (by rw [List.mem_cons, List.mem_singleton, z1]; exact fun z => z.elim (Nat.ne_of_lt lq) (Nat.ne_of_lt (Nat.lt_succ_of_lt lq))) (Heap.get?_push_of_some _ (Heap.get?_push_of_some _ e))
set_option maxHeartbeats 8000000 in
theorem call_set_txL {l : Addr} {items : Array Value} {xs : List Str} {Q : Value → Shared → Prop} (hh : A.handled = none) (hl : s.heap.IsList l items) (hi : PyProof.Rows.StrsAre items.toList xs) (hx : xs.length + 1 < scanBound)
    (h : ∀ (h' : Heap) (tk c : Nat), Cnt xs xs.length c → h'.SetOf (PySem.strKind prog w) s.heap.objs.size (Has xs xs.length) c → (∀ q o, s.heap.get? q = some o → h'.get? q = some o) → Q (.ref s.heap.objs.size) { s with heap := h', toks := tk }) :
    wpAny (model prog w) A (call (.type "set") [.ref l]) Q E s := by
  obtain ⟨_, _, hmro⟩ := PySem.F.called_set.mro
  have hmade := PySem.F.called_set.made
  have hsub := PySem.F.called_set.sub
  have h1 := PySem.F.called_set.notType
  have h2 := PySem.F.called_set.canCreate
  have hct := PySem.F.typeCall_set_1 (.ref l)
  refine wpAny_call (codeAny_of_tree (wpAny_pure (a := _) ⟨Code.quiet_builtin _ (by decide +kernel), codeAny_builtin PySem.F.entry_type_call ?_⟩))
  rw [Around.under_plain (weight_type_call_type "set" [.ref l] []) rfl]
  repeat (any_goals (first | assumption | wp_step))
  refine codeAny_mono (code_set_new_1 (.ref l) (E := E) (Q₁ := fun v s1 => ∃ led, v = .ref s.heap.objs.size ∧ s1 = { s with heap := s.heap.push (setObj led) }) fun led => ⟨led, rfl, rfl⟩) fun r s1 hr => ?_
  match r, hr with
  | .ok (.ret v), hr =>
    obtain ⟨led, rfl, rfl⟩ := hr
    have hS : (s.heap.push (setObj led)).get? s.heap.objs.size = some (setObj led) := Heap.get?_push_size _ rfl
    have hT : Shared.TypeIs { s with heap := s.heap.push (setObj led) } (.ref s.heap.objs.size) "set" := ⟨_, hS, rfl⟩
    have hli := PySem.F.called_set.init.lookup
    have hbi := PySem.F.called_set.init.bind (.ref s.heap.objs.size)
    repeat (any_goals (first | assumption | wp_step))
    refine codeAny_mono (init_txL (E := E) (by simp [hh]) hl hi hx) fun r s2 hr => ?_
    match r, hr with
    | .ok (.ret v), hr =>
      obtain ⟨rfl, h', tk, c, rfl, hc, ho, keep⟩ := hr
      repeat (any_goals (first | assumption | wp_step))
      exact h h' tk c hc ho keep
    | .error e, hr => exact hr
    | .ok .next, hr => exact hr.elim
    | .ok .brk, hr => exact hr.elim
    | .ok .cont, hr => exact hr.elim
  | .error e, hr => exact hr
  | .ok .next, hr => exact hr.elim
  | .ok .brk, hr => exact hr.elim
  | .ok .cont, hr => exact hr.elim
end
/-- len(set(xs)), xs a tuple or a list of texts -/
def tLenSetS (K : PySem.W.Frag) (ta : TE) : TE := fun σ H Q => ta σ H fun x H1 => ∃ (l : Addr) (xs : List Str), x = .ref l ∧ (SqT K H1 l (xs.map V.str) ∨ SqL K H1 l (xs.map V.str)) ∧ xs.length < 64 ∧ ∀ c : Nat, c ≤ xs.length → (c = xs.length ↔ xs.Nodup) → Q (.int c) H1
theorem pe_lenSetS {X : Cx} {a : Expr} {ta : TE} {p p2 q pos : Pos} (K : PySem.W.Frag) (hg : Gl X "len") (hm : X.mg "len" = none) (hg2 : Gl X "set") (hm2 : X.mg "set" = none) (ha : PE X a ta) (hc : X.calm = true := by rfl)
    (na : starEach [a] X.env = (false, eval a X.env) :: starEach [] X.env := by rfl) (hK : X.K = K := by rfl) : PE X (.Call (.Name "len" p) [.Call (.Name "set" p2) [a] [] q] [] pos) (tLenSetS K ta) := by
  subst hK
  refine ⟨fun pins s σ H Q I h => Call_ (ld_blt I hg hm boot_len (PyProof.Rows.callWith_builtin1 (PyProof.Rows.args_cons (Call_ (ld_blt I hg2 hm2 boot_set (PyProof.Rows.callWith_type1 (PyProof.Rows.args_cons (thn (ha.run pins s σ H _ I h) fun v s1 ⟨x, H1, I1, r1, q1⟩ => PyProof.Rows.args_nil ?_) na) na rfl))) rfl) rfl rfl))⟩
  obtain ⟨l, xs, rfl, ht, few, q1⟩ := q1
  obtain rfl : v = Value.ref l := r1
  have fin : ∀ (h' : Heap) (tk c : Nat), Cnt xs xs.length c → h'.SetOf (PySem.strKind X.prog X.w) s1.heap.objs.size (Has xs xs.length) c → (∀ q o, s1.heap.get? q = some o → h'.get? q = some o) → wpAny (model X.prog X.w) X.A (call (.builtin "len") [.ref s1.heap.objs.size]) (EP X pins σ Q) X.xe { s1 with heap := h', toks := tk } := fun h' tk c hcn hS keep => by
    obtain ⟨o, es, ep, tb, ho, hex, hd, _, _, _, hf, hn⟩ := hS
    have I2 : Inv X pins σ H1 { s1 with heap := h', toks := tk } := I1.kept keep
    obtain ⟨c1, c2⟩ := hcn
    rw [List.take_length] at c2
    exact call_len_set ho hex hd hf (by rw [hn]; omega) ⟨.int c, H1, I2.tok _, ⟨_, by rw [hn]⟩, q1 c c1 c2⟩
  rcases ht with ht | ht
  · obtain ⟨its, rv, pl, _⟩ := I1.tuple ht
    exact call_set_tx (I1.ok.hd hc) pl (by simpa using strsAre_of rv) (by unfold scanBound; omega) fun h' tk c hcn hS keep => PyProof.Rows.args_nil (fin h' tk c hcn hS keep)
  · obtain ⟨its, rv, pl, _⟩ := I1.list ht
    exact call_set_txL (I1.ok.hd hc) pl.isList (by simpa using strsAre_of rv) (by unfold scanBound; omega) fun h' tk c hcn hS keep => PyProof.Rows.args_nil (fin h' tk c hcn hS keep)
end El

set_option Elab.async false
set_option linter.all false
set_option maxRecDepth 100000
set_option maxHeartbeats 4000000
/-! Own words: methods, and classes with keyword-only parameters, called inside a try. -/
namespace El
open PySem PySem.Spec PyProof.Rows L2
section
variable {X : Cx} {CX : CXT} {k : Nat} {C f : Addr} {fd : FuncData} {ps : List Str} {sp : Sp} {E : L2.St → XK} {o e : Expr} {es : List Expr} {m : Str} {pos apos : Pos} {ta : TE} {t : TA} {pl : Sem Bool}
/-- o.m(e, ..), what it lets out being taken where it stands -/
def tMcS (C : Addr) (m : Str) (sp : Sp) (E : L2.St → XK) (ta : TE) (t : TA) : TE := fun σ H Q => ta σ H fun x H1 => ∃ a dx fs, x = .ref a ∧ H1 a = some (.ins C dx fs) ∧ fs.lookup m = none ∧ t σ H1 fun vs H2 => sp (x :: vs) H2 Q (E σ)
theorem pe_mcS (he : PE X o ta) (c : Cls X.K C) (hm : Meth X.K C m f) (F : FnOk X.prog X.w X.K X.mg X.base CX k f fd ps sp) (hr : Room k X.A) (hb : Binds X.K fd ps []) (hx : ∀ σ, PassesAt CX X σ (E σ)) (ha : PA X (e :: es) t)
    (hst : starEach (e :: es) X.env = (false, eval e X.env) :: starEach es X.env := by rfl) (hpl : (backTo pos (starEach es X.env)).any (·.1) = false := by rfl)
    (ht : eval (.Call (.Attribute o m apos) (e :: es) [] pos) X.env = (do
      let ov ← eval o X.env
      standAt apos.atName
      let (f, first) ← holding [ov] (getMethod ov m pl)
      callWith pos f first (backTo pos (starEach (e :: es) X.env)) (backToKw pos (keywordEach [] X.env))) := by rfl) :
    PE X (.Call (.Attribute o m apos) (e :: es) [] pos) (tMcS C m sp E ta t) := by
  refine ⟨fun pins s σ H Q I h => PySem.W.methodCall_KW (pl := pl) (thn (he.run pins s σ H _ I h) fun u s1 ⟨x, H1, I1, rx, a, dx, fs, ex, ea, l, q⟩ => ?_) ht⟩
  subst ex
  cases (show u = Value.ref a from rx)
  refine getmeth_ok I1 ea c hm l (PySem.W.callWith_K (first := [.ref a]) (h₀ := X.base) I.ok.mod.kin hm.kp (thn (ha.run pos pins s1 σ H1 _ I1 q) fun us s2 ⟨vs, H2, I2, r, q2⟩ => ⟨I2.kIn, ?_⟩) hst hpl)
  exact run_fnS (us := .ref a :: us) (vs := .ref a :: vs) F hr hb (hx σ) I2 (.cons rfl r) q2
end
section
variable {X : Cx} {CX : CXT} {k n : Nat} {C f e1 e2 : Addr} {fd : FuncData} {ps ks : List Str} {sp : Sp} {E : L2.St → XK} {x k1 k2 : Str} {p pos : Pos} {e : Expr} {es : List Expr} {kws : List Keyword} {t tk : TA} {g : List Value → List Value → List Value} {gV : List V → List V → List V}
/-- C(e, .., k = v, ..), what its __init__ lets out being taken where it stands -/
def tMkKS (C : Addr) (n m : Nat) (sp : Sp) (gV : List V → List V → List V) (E : L2.St → XK) (t tk : TA) : TE := fun σ H Q => t σ H fun vs H1 => tk σ H1 fun zs H2 => vs.length = n ∧ zs.length = m ∧ ∀ x dx, H2 x = none → H2 dx = none → dx ≠ x →
  sp (gV (.ref x :: vs) zs) (upd (upd H2 dx (.own x)) x (.ins C dx [])) (fun v H3 => v = .non ∧ Q (.ref x) H3) (E σ)
theorem run_mkKS {pins : List (Addr × Obj)} {σ : L2.St} {H : Hp} {s : Shared} {Q : VK} {us ws : List Value} {vs zs : List V} {E : XK} (M : Mk X.K C f) (F : FnOk X.prog X.w X.K X.mg X.base CX k f fd ps sp) (hr : Room (k + 1) X.A) (hb : KBn X.K fd ps (n + 1) ks g gV) (hx : PassesAt CX X σ E)
    (I : Inv X pins σ H s) (r : Vals vs us) (rz : Vals zs ws) (l1 : vs.length = n) (l2 : zs.length = ks.length)
    (h : ∀ x dx, H x = none → H dx = none → dx ≠ x → sp (gV (.ref x :: vs) zs) (upd (upd H dx (.own x)) x (.ins C dx [])) (fun v H2 => v = .non ∧ Q (.ref x) H2) E) :
    wpAny (model X.prog X.w) X.A (call (.ref C) us (ks.zip ws)) (EP X pins σ Q) X.xe s := by
  have fresh := fun n hn => I.hok.fresh (a := n) hn
  have q := h (s.heap.objs.size + 1) s.heap.objs.size (fresh _ (Nat.le_succ _)) (fresh _ (Nat.le_refl _)) (Nat.ne_of_lt (Nat.lt_succ_self _))
  have J := Inv.made (C := C) I
  have rr : Vals (V.ref (s.heap.objs.size + 1) :: vs) (Value.ref (s.heap.objs.size + 1) :: us) := .cons rfl r
  have len : (Value.ref (s.heap.objs.size + 1) :: us).length = n + 1 := by rw [← rr.length, List.length_cons, l1]
  have bt := hb.to _ (Value.ref (s.heap.objs.size + 1) :: us) ws J.kIn len (rz.length.symm.trans l2)
  refine wpAny_call (make_map (f := f) I.kIn M.makes M.init (beq_iff_eq.mp M.fn) (codeAny_mono (F.run _ X.stack _ _ ⟨Value.ref (s.heap.objs.size + 1) :: us, ks.zip ws⟩ _ _ _ E (hr.make C us (ks.zip ws)) (J.env0.make C us (ks.zip ws)) bt (hb.rel rr rz) q) fun r s' hs => ?_))
  match r, hs with
  | .error e, hs => exact hx pins _ _ e s' J hs
  | .ok (.ret u), hs =>
    obtain ⟨v, H', J', rv, ev, q'⟩ := J.after hs
    subst ev
    exact ⟨rv, V.ref (s.heap.objs.size + 1), H', J', rfl, q'⟩
  | .ok .next, hs => exact False.elim hs
  | .ok .brk, hs => exact False.elim hs
  | .ok .cont, hs => exact False.elim hs
theorem pe_mkKS (M : Mk X.K C f) (F : FnOk X.prog X.w X.K X.mg X.base CX k f fd ps sp) (hr : Room (k + 1) X.A) (hg : Gl X x) (hm : X.mg x = some (.ref C)) (hb : KBn X.K fd ps (n + 1) ks g gV) (hx : ∀ σ, PassesAt CX X σ (E σ)) (ha : PA X (e :: es) t) (hkw : PK X kws tk)
    (hall : (backToKw pos (keywordEach kws X.env)).all (·.1.isSome) = true := by rfl) (hks : (backToKw pos (keywordEach kws X.env)).filterMap (·.1) = ks := by rfl) (hdb : (x == ("__debug__" : Str)) = false := by decide)
    (he : starEach (e :: es) X.env = (false, eval e X.env) :: starEach es X.env := by rfl) (hpl : ((backTo pos (starEach (e :: es) X.env)).any (·.1) || (backToKw pos (keywordEach kws X.env)).any (·.1.isNone)) = false := by rfl) :
    PE X (.Call (.Name x p) (e :: es) kws pos) (tMkKS C n ks.length sp gV E t tk) := by
  refine ⟨fun pins s σ H Q I h => wpAny_Call_Name_kw (ld_glob I hg hm (PySem.W.callWith_KW (h₀ := X.base) I.ok.mod.kin M.kp hall (thn (ha.run pos pins s σ H _ I h) fun us s1 ⟨vs, H1, I1, r, q⟩ => ?_) hpl he) hdb)⟩
  refine thn (hkw.run pos pins s1 σ H1 _ I1 q) fun ws s2 ⟨zs, H2, I2, rz, l1, l2, q2⟩ => ⟨I2.kIn, ?_⟩
  rw [hks]
  exact run_mkKS M F hr hb (hx σ) I2 r rz l1 l2 q2
theorem pe_mkAllS (c : CalK X.prog X.w X.K X.mg X.base CX k x C f fd ps (n + 1) k1 k2 e1 e2 sp) (hr : Room (k + 1) X.A) (hg : Gl X x) (hx : ∀ σ, PassesAt CX X σ (E σ)) (ha : PA X (e :: es) t) (hkw : PK X kws tk) (hdb : (x == ("__debug__" : Str)) = false := by decide)
    (he : starEach (e :: es) X.env = (false, eval e X.env) :: starEach es X.env := by rfl) (hpl : ((backTo pos (starEach (e :: es) X.env)).any (·.1) || (backToKw pos (keywordEach kws X.env)).any (·.1.isNone)) = false := by rfl) (hall : (backToKw pos (keywordEach kws X.env)).all (·.1.isSome) = true := by rfl) (hks : (backToKw pos (keywordEach kws X.env)).filterMap (·.1) = [k1, k2] := by rfl) :
    PE X (.Call (.Name x p) (e :: es) kws pos) (tMkKS C n 2 sp (fun vs zs => vs ++ zs) E t tk) := by
  obtain ⟨g, hb⟩ := c.b.all
  exact pe_mkKS c.mkc c.G hr hg c.m hb hx ha hkw hall hks hdb he hpl
end
end El

set_option Elab.async false
set_option linter.all false
set_option maxRecDepth 100000
set_option maxHeartbeats 4000000
/-! Own words: list.remove of a text. -/
namespace El
open PySem PySem.Spec PyProof.Rows L2
theorem pi_listK {X : Cx} {tg l : Expr} {tl : TE} (K : PySem.W.Frag) (hl : PE X l tl) (h : X.K = K := by rfl) : PI X tg l (iList K tl) := h ▸ pi_list hl
theorem pi_tupK {X : Cx} {tg l : Expr} {tl : TE} (K : PySem.W.Frag) (hl : PE X l tl) (h : X.K = K := by rfl) : PI X tg l (iTup K tl) := h ▸ pi_tup hl
theorem vals_at : ∀ {zs : List Str} {us : List Value}, Vals (zs.map V.str) us → ∀ (i : Nat) (h : i < us.length), ∃ t, ∃ z, zs[i]? = some z ∧ us[i] = .str z t
  | [], _, .nil, i, h => absurd h (Nat.not_lt_zero _)
  | z :: zs, _, .cons r q, i, h => by
    obtain ⟨t, rfl⟩ := r
    cases i with
    | zero => exact ⟨t, z, rfl, rfl⟩
    | succ i => exact vals_at q i (Nat.lt_of_succ_lt_succ h)
theorem erase_strs : ∀ (zs : List Str) (j : Nat), (zs.map V.str).eraseIdx j = (zs.eraseIdx j).map V.str
  | [], _ => rfl
  | _ :: _, 0 => rfl
  | z :: zs, j + 1 => congrArg (V.str z :: ·) (erase_strs zs j)
/-- xs.remove(z), xs a list of texts that has z, first at j -/
def rRemS : V → List V → Hp → VK → Prop := fun x vs H Q => ∃ (l : Addr) (zs : List Str) (z : Str) (j : Nat), x = .ref l ∧ vs = [.str z] ∧ H l = some (.lst (zs.map V.str)) ∧ zs[j]? = some z ∧ (∀ m : Nat, m < j → zs[m]? ≠ some z) ∧ Q .non (upd H l (.lst ((zs.eraseIdx j).map V.str)))
theorem mt_removeS {X : Cx} : MtM X "list.remove" rRemS := by
  intro pins s σ H x vs v us Q I rx rvs h
  obtain ⟨l, zs, z, j, rfl, rfl, hl, hj, no, q⟩ := h
  cases rx
  obtain ⟨u, rfl, t, rfl⟩ := rvs.one
  obtain ⟨sz, its, n, r, len, e⟩ := I.lstM hl
  have lens : its.length = zs.length := by rw [← r.length, List.length_map]
  have jz : j < zs.length := (List.getElem?_eq_some_iff.mp hj).1
  have eqs : ∀ (i : Nat) (h : i < its.length), MeetsSeq.EqGives its[i] (.str z t) (decide (zs[i]? = some z)) := fun i h => by
    obtain ⟨t2, y, e1, e2⟩ := vals_at r i h
    rw [e2, e1]
    have k : MeetsSeq.EqGives (.str y t2) (.str z t) (decide (y = z)) := fun _ _ _ _ _ _ h => wpAny_eqBool_str h
    have e3 : decide (y = z) = decide (some y = some z) := by
      rw [Bool.eq_iff_iff, decide_eq_true_iff, decide_eq_true_iff, Option.some.injEq]
    rw [e3] at k
    exact k
  let f : Value → Bool := fun y => match y with
    | .str y _ => decide (y = z)
    | _ => false
  have fe : ∀ (i : Nat) (h : i < its.length), f its[i] = decide (zs[i]? = some z) := fun i h => by
    obtain ⟨t2, y, e1, e2⟩ := vals_at r i h
    rw [e2, e1]
    show decide (y = z) = decide (some y = some z)
    rw [Bool.eq_iff_iff, decide_eq_true_iff, decide_eq_true_iff, Option.some.injEq]
  refine call_meets PySem.F.slot_list_remove ⟨_, e, rfl⟩ PySem.F.entry_list_remove (PySem.F.args_list_remove_2 _ _)
    (MeetsSeq.list_remove l its.toArray n (.str z t) f (fun y hy => ?_) j (by rw [List.size_toArray]; omega) ?_ (fun m hm mj => ?_) (by rw [List.size_toArray]; rw [List.length_map] at sz len; omega)) ⟨e, .non, _, I.lset (its' := its.eraseIdx j) (t' := s.toks) hl e ?_ (erase_strs zs j ▸ r.eraseIdx j) ?_, rfl, q⟩
  · obtain ⟨i, hi, rfl⟩ := List.getElem_of_mem (show y ∈ its by simpa using hy)
    rw [fe i hi]
    exact eqs i hi
  · have z1 := fe j (by omega)
    simpa [hj] using z1
  · have z1 := fe m (by omega)
    simpa [no m mj] using z1
  · show its.toArray.eraseIdxIfInBounds j = (its.eraseIdx j).toArray
    rw [List.eraseIdxIfInBounds_toArray]
  · have := len_erase zs j
    rw [List.length_map] at *
    omega
end El

set_option Elab.async false
set_option linter.all false
set_option maxRecDepth 100000
set_option maxHeartbeats 4000000
namespace K27
open PySem PySem.Spec PyProof.Rows L2 El NdefX
def topS (i : Nat) : Stmt := PySem.Challenge.pw_elseput_k27_rules_of_a_plan.main.body.getD i (.Pass ⟨0, 0, 0, 0⟩)
abbrev s_is_name : Stmt := topS 14
theorem sc_is_name : FnScope ["text", "letter"] ["text"] (defScope s_is_name) := ⟨rfl, rfl, rfl, by decide +kernel, rfl, by decide +kernel, by decide +kernel⟩

abbrev s_check_name : Stmt := topS 19
theorem sc_check_name : FnScope ["text"] ["text"] (defScope s_check_name) := ⟨rfl, rfl, rfl, by decide +kernel, rfl, by decide +kernel, by decide +kernel⟩

abbrev s_looked_at : Stmt := topS 25
theorem sc_looked_at : FnScope ["steps", "deed", "key"] ["steps"] (defScope s_looked_at) := ⟨rfl, rfl, rfl, by decide +kernel, rfl, by decide +kernel, by decide +kernel⟩

abbrev s_steps_fit : Stmt := topS 26
theorem sc_steps_fit : FnScope ["steps", "at"] ["steps"] (defScope s_steps_fit) := ⟨rfl, rfl, rfl, by decide +kernel, rfl, by decide +kernel, by decide +kernel⟩

abbrev s_step_fits : Stmt := topS 27
theorem sc_step_fits : FnScope ["steps", "at", "deed", "key"] ["steps", "at"] (defScope s_step_fits) := ⟨rfl, rfl, rfl, by decide +kernel, rfl, by decide +kernel, by decide +kernel⟩

abbrev s_keys_fit : Stmt := topS 28
theorem sc_keys_fit : FnScope ["steps", "names", "name"] ["steps", "names"] (defScope s_keys_fit) := ⟨rfl, rfl, rfl, by decide +kernel, rfl, by decide +kernel, by decide +kernel⟩

abbrev s__law_state : Stmt := topS 33
theorem sc__law_state : FnScope ["_law_script"] ["_law_script"] (defScope s__law_state) := ⟨rfl, rfl, rfl, by decide +kernel, rfl, by decide +kernel, by decide +kernel⟩

abbrev s__law_draw : Stmt := topS 34
theorem sc__law_draw : FnScope ["_law_state_here", "_law_many", "_law_first", "_law_second", "_law_third", "_law_digit"] ["_law_state_here", "_law_many"] (defScope s__law_draw) := ⟨rfl, rfl, rfl, by decide +kernel, rfl, by decide +kernel, by decide +kernel⟩

abbrev s__law_pick : Stmt := topS 35
theorem sc__law_pick : FnScope ["_law_state_here", "_law_row"] ["_law_state_here", "_law_row"] (defScope s__law_pick) := ⟨rfl, rfl, rfl, by decide +kernel, rfl, by decide +kernel, by decide +kernel⟩

abbrev s__law_mixed : Stmt := topS 36
theorem sc__law_mixed : FnScope ["_law_state_here", "_law_row", "_law_rest", "_law_result", "_law_k", "_law_at"] ["_law_state_here", "_law_row"] (defScope s__law_mixed) := ⟨rfl, rfl, rfl, by decide +kernel, rfl, by decide +kernel, by decide +kernel⟩

abbrev s__law_names : Stmt := topS 37
theorem sc__law_names : FnScope ["_law_state_here", "_law_many", "_law_letters", "_law_style", "_law_shift", "_law_code", "_law_spot", "_law_base", "_law_k", "_law_reserved", "_law_result", "_law_word"] ["_law_state_here", "_law_many"] (defScope s__law_names) := ⟨rfl, rfl, rfl, by decide +kernel, rfl, by decide +kernel, by decide +kernel⟩

abbrev s__law_is_int : Stmt := topS 38
theorem sc__law_is_int : FnScope ["_law_thing"] ["_law_thing"] (defScope s__law_is_int) := ⟨rfl, rfl, rfl, by decide +kernel, rfl, by decide +kernel, by decide +kernel⟩

abbrev s__law_same : Stmt := topS 39
theorem sc__law_same : FnScope ["_law_actual", "_law_due_here", "_law_k", "_law_key"] ["_law_actual", "_law_due_here"] (defScope s__law_same) := ⟨rfl, rfl, rfl, by decide +kernel, rfl, by decide +kernel, by decide +kernel⟩

abbrev s__law_wild_steps : Stmt := topS 40
theorem sc__law_wild_steps : FnScope ["_law_state_here", "_law_carried", "_law_steps", "_law_early", "_law_key", "_law_late", "_law_style"] ["_law_state_here", "_law_carried"] (defScope s__law_wild_steps) := ⟨rfl, rfl, rfl, by decide +kernel, rfl, by decide +kernel, by decide +kernel⟩

abbrev s__law_some : Stmt := topS 41
theorem sc__law_some : FnScope ["_law_state_here", "_law_row", "_law_share", "_law_item"] ["_law_state_here", "_law_row", "_law_share"] (defScope s__law_some) := ⟨rfl, rfl, rfl, by decide +kernel, rfl, by decide +kernel, by decide +kernel⟩

abbrev s__law_bad_name : Stmt := topS 42
theorem sc__law_bad_name : FnScope ["_law_state_here", "_law_good", "_law_kind", "_law_reserved", "_law_spot"] ["_law_state_here", "_law_good"] (defScope s__law_bad_name) := ⟨rfl, rfl, rfl, by decide +kernel, rfl, by decide +kernel, by decide +kernel⟩

abbrev s__law_try : Stmt := topS 43
theorem sc__law_try : FnScope ["_law_steps", "_law_row_keys", "_law_held_keys", "e", "_law_plan", "_law_thing", "_law_kinds"] ["_law_steps", "_law_row_keys", "_law_held_keys"] (defScope s__law_try) := ⟨rfl, rfl, rfl, by decide +kernel, rfl, by decide +kernel, by decide +kernel⟩

abbrev s__law_keys_good : Stmt := topS 44
theorem sc__law_keys_good : FnScope ["_law_row", "_law_looked", "_law_k"] ["_law_row", "_law_looked"] (defScope s__law_keys_good) := ⟨rfl, rfl, rfl, by decide +kernel, rfl, by decide +kernel, by decide +kernel⟩

abbrev s__law_steps_good : Stmt := topS 45
theorem sc__law_steps_good : FnScope ["_law_steps", "_law_looked", "_law_k", "_law_deed", "_law_key"] ["_law_steps", "_law_looked"] (defScope s__law_steps_good) := ⟨rfl, rfl, rfl, by decide +kernel, rfl, by decide +kernel, by decide +kernel⟩

abbrev s__law_due : Stmt := topS 46
theorem sc__law_due : FnScope ["_law_steps", "_law_row_keys", "_law_held_keys", "_law_names_here", "_law_name", "_law_looked", "_law_first", "_law_step", "_law_key"] ["_law_steps", "_law_row_keys", "_law_held_keys", "_law_names_here"] (defScope s__law_due) := ⟨rfl, rfl, rfl, by decide +kernel, rfl, by decide +kernel, by decide +kernel⟩

abbrev s__law_spoiled : Stmt := topS 47
theorem sc__law_spoiled : FnScope ["_law_state_here", "_law_plan_rows", "_law_names_here", "_law_kind", "_law_item", "_law_at", "_law_spot", "_law_steps", "_law_row_keys", "_law_held_keys", "_law_deed", "_law_key"] ["_law_state_here", "_law_plan_rows", "_law_names_here"] (defScope s__law_spoiled) := ⟨rfl, rfl, rfl, by decide +kernel, rfl, by decide +kernel, by decide +kernel⟩

abbrev s__law_shows : Stmt := topS 48
theorem sc__law_shows : FnScope ["_law_plan", "_law_due_here", "_law_step"] ["_law_plan", "_law_due_here"] (defScope s__law_shows) := ⟨rfl, rfl, rfl, by decide +kernel, rfl, by decide +kernel, by decide +kernel⟩

abbrev s_law : Stmt := topS 49
theorem sc_law : FnScope ["_law_script", "_law_state_here", "_law_names_here", "_law_carried", "_law_steps", "_law_row_keys", "_law_held_keys", "_law_handed", "_law_plan", "_law_due_here", "_law_row", "_law_k", "_law_bent", "_law_told"] ["_law_script"] (defScope s_law) := ⟨rfl, rfl, rfl, by decide +kernel, rfl, by decide +kernel, by decide +kernel⟩

abbrev s_Plan___init__ : Stmt := mthS (topS 24) 0
theorem sc_Plan___init__ : FnScope ["self", "steps", "locked", "kept", "key", "deed", "_"] ["self", "steps", "locked", "kept"] (defScope s_Plan___init__) := ⟨rfl, rfl, rfl, by decide +kernel, rfl, by decide +kernel, by decide +kernel⟩

abbrev s_Plan___len__ : Stmt := mthS (topS 24) 10
theorem sc_Plan___len__ : FnScope ["self"] ["self"] (defScope s_Plan___len__) := ⟨rfl, rfl, rfl, by decide +kernel, rfl, by decide +kernel, by decide +kernel⟩

abbrev s_Plan___iter__ : Stmt := mthS (topS 24) 11
theorem sc_Plan___iter__ : FnScope ["self"] ["self"] (defScope s_Plan___iter__) := ⟨rfl, rfl, rfl, by decide +kernel, rfl, by decide +kernel, by decide +kernel⟩

abbrev s_BadName : Stmt := mthS (topS 3) 0
theorem sc_BadName : NdefX.NScope ["self", "name", "__class__"] ["self", "name"] ["__class__"] (defScope s_BadName) := NdefX.nscope_by (by decide +kernel)
abbrev s_BadText : Stmt := mthS (topS 4) 0
theorem sc_BadText : NdefX.NScope ["self", "line", "column", "__class__"] ["self", "line", "column"] ["__class__"] (defScope s_BadText) := NdefX.nscope_by (by decide +kernel)
abbrev s_UnknownName : Stmt := mthS (topS 5) 0
theorem sc_UnknownName : NdefX.NScope ["self", "name", "__class__"] ["self", "name"] ["__class__"] (defScope s_UnknownName) := NdefX.nscope_by (by decide +kernel)
abbrev s_BadPlan : Stmt := mthS (topS 6) 0
theorem sc_BadPlan : NdefX.NScope ["self", "__class__"] ["self"] ["__class__"] (defScope s_BadPlan) := NdefX.nscope_by (by decide +kernel)
section
variable {P : Program} {w : World} {K : PySem.W.Frag} {mg : Str → Option Value} {base : Heap}
variable {t_LETTERS t_LONGEST_NAME : Tok} {a_DEEDS a_RESERVED a_BadName a_BadPlan a_ElseputError a_Plan a_UnknownName : Addr}
structure Gs (K : PySem.W.Frag) (mg : Str → Option Value) (t_LETTERS t_LONGEST_NAME : Tok) (a_DEEDS a_RESERVED a_BadName a_BadPlan a_ElseputError a_Plan a_UnknownName : Addr) : Prop where
  z_ValueError : mg "ValueError" = none
  z_all : mg "all" = none
  z_bool : mg "bool" = none
  z_dict : mg "dict" = none
  z_int : mg "int" = none
  z_isinstance : mg "isinstance" = none
  z_iter : mg "iter" = none
  z_len : mg "len" = none
  z_list : mg "list" = none
  z_range : mg "range" = none
  z_set : mg "set" = none
  z_str : mg "str" = none
  z_super : mg "super" = none
  z_tuple : mg "tuple" = none
  g_LETTERS : mg "LETTERS" = some (.str "abcdefghijklmnopqrstuvwxyz" t_LETTERS)
  g_LONGEST_NAME : mg "LONGEST_NAME" = some (.int 12 t_LONGEST_NAME)
  g_DEEDS : mg "DEEDS" = some (.ref a_DEEDS)
  q_DEEDS : ∀ H, SqT K H a_DEEDS [(.str "take"), (.str "look"), (.str "free")]
  g_RESERVED : mg "RESERVED" = some (.ref a_RESERVED)
  q_RESERVED : ∀ H, SqT K H a_RESERVED [(.str "always"), (.str "never"), (.str "and"), (.str "or"), (.str "not"), (.str "when"), (.str "add"), (.str "set"), (.str "change"), (.str "tell"), (.str "refuse"), (.str "take"), (.str "look"), (.str "free"), (.str "lock"), (.str "keep"), (.str "keys"), (.str "fields")]
  g_BadName : mg "BadName" = some (.ref a_BadName)
  n_BadName : PySem.W.nsIn K mainGlobals "BadName" = some (some (.ref a_BadName))
  x_BadName : ExV K a_BadName ["name"]
  g_BadPlan : mg "BadPlan" = some (.ref a_BadPlan)
  n_BadPlan : PySem.W.nsIn K mainGlobals "BadPlan" = some (some (.ref a_BadPlan))
  x_BadPlan : ExV K a_BadPlan []
  g_ElseputError : mg "ElseputError" = some (.ref a_ElseputError)
  n_ElseputError : PySem.W.nsIn K mainGlobals "ElseputError" = some (some (.ref a_ElseputError))
  g_Plan : mg "Plan" = some (.ref a_Plan)
  n_Plan : PySem.W.nsIn K mainGlobals "Plan" = some (some (.ref a_Plan))
  g_UnknownName : mg "UnknownName" = some (.ref a_UnknownName)
  n_UnknownName : PySem.W.nsIn K mainGlobals "UnknownName" = some (some (.ref a_UnknownName))
  x_UnknownName : ExV K a_UnknownName ["name"]
  cl_Plan : Cls K a_Plan
  na_Plan_kept : NoAttr K a_Plan "kept"
  na_Plan_locked : NoAttr K a_Plan "locked"
  na_Plan_steps : NoAttr K a_Plan "steps"
  rd_Plan : ClX.CRead K a_Plan (.type "type")
  m_BadName_ElseputError : PySem.W.exmOne K (.ref a_BadName) (.ref a_ElseputError) = some true
  m_BadPlan_ElseputError : PySem.W.exmOne K (.ref a_BadPlan) (.ref a_ElseputError) = some true
  k_BadName_BadName : PySem.W.kitOne K (.ref a_BadName) (.ref a_BadName) = some true
  k_BadName_BadPlan : PySem.W.kitOne K (.ref a_BadName) (.ref a_BadPlan) = some false
  k_BadName_UnknownName : PySem.W.kitOne K (.ref a_BadName) (.ref a_UnknownName) = some false
  k_BadName_ValueError : PySem.W.kitOne K (.ref a_BadName) (.type "ValueError") = some true
  k_BadPlan_BadName : PySem.W.kitOne K (.ref a_BadPlan) (.ref a_BadName) = some false
  k_BadPlan_BadPlan : PySem.W.kitOne K (.ref a_BadPlan) (.ref a_BadPlan) = some true
  k_BadPlan_UnknownName : PySem.W.kitOne K (.ref a_BadPlan) (.ref a_UnknownName) = some false
  k_BadPlan_ValueError : PySem.W.kitOne K (.ref a_BadPlan) (.type "ValueError") = some true
/-! ### the script's state -/
def stv (scr : Addr) (i v m c : Int) : List V := [.ref scr, .int i, .int v, .int m, .int c]
def DrAt (H : Hp) (st scr : Addr) : Prop := ∃ (ns : List Int) (i v m c : Int), H st = some (.lst (stv scr i v m c)) ∧ H scr = some (.lst (ns.map V.int)) ∧ ns.length ≤ 63 ∧ 0 ≤ i
theorem DrAt.ne {H : Hp} {st scr : Addr} {ns : List Int} {i v m c : Int} (h : H st = some (.lst (stv scr i v m c))) (h2 : H scr = some (.lst (ns.map V.int))) : scr ≠ st := by
  refine ne_of h2 h fun e => ?_
  injection e with e
  cases ns with
  | nil => simp [stv] at e
  | cons a r => simp [stv] at e
theorem DrAt.upd {H : Hp} {st scr : Addr} {ns : List Int} {i v m c i' v' m' c' : Int} (h : H st = some (.lst (stv scr i v m c))) (h2 : H scr = some (.lst (ns.map V.int))) (hl : ns.length ≤ 63) (h0 : 0 ≤ i') : DrAt (upd H st (.lst (stv scr i' v' m' c'))) st scr :=
  ⟨ns, i', v', m', c', upd_same, by rw [upd_ne (DrAt.ne h h2)]; exact h2, hl, h0⟩
theorem upd_id {H : Hp} {a : Addr} {o : HO} (h : H a = some o) : upd H a o = H := by
  funext b
  unfold L2.upd
  split
  · rename_i e; rw [e, h]
  · rfl
theorem DrAt.lst {H : Hp} {st scr : Addr} (h : DrAt H st scr) : ∃ l, H st = some (.lst l) := by
  obtain ⟨ns, i, v, m, c, h, _⟩ := h
  exact ⟨_, h⟩
theorem DrAt.new {H H' : Hp} {st scr : Addr} (h : DrAt H st scr) (s : Same H H') : DrAt H' st scr := by
  obtain ⟨ns, i, v, m, c, h1, h2, h3⟩ := h
  exact ⟨ns, i, v, m, c, s _ _ h1, s _ _ h2, h3⟩
theorem DrAt.at {H : Hp} {st scr p : Addr} {o : HO} (h : DrAt H st scr) (h1 : p ≠ st) (h2 : p ≠ scr) : DrAt (L2.upd H p o) st scr := by
  obtain ⟨ns, i, v, m, c, e1, e2, h3⟩ := h
  exact ⟨ns, i, v, m, c, by rw [upd_ne h1.symm]; exact e1, by rw [upd_ne h2.symm]; exact e2, h3⟩
theorem same_new {H : Hp} {p : Addr} {o : HO} (h : H p = none) : Same H (upd H p o) := fun b u q => by rw [upd_ne (ne_of_none q h)]; exact q
theorem free_new {H : Hp} {p q : Addr} {o : HO} (h : upd H p o q = none) : H q = none := by
  unfold L2.upd at h
  split at h
  · cases h
  · exact h
theorem new_ne {H : Hp} {p q : Addr} {o : HO} (h : upd H p o q = none) : q ≠ p := fun e => by rw [e, upd_same] at h; cases h
theorem len_add (a b : Str) : (a ++ b).length = a.length + b.length := by
  show (a.cps ++ b.cps).size = _
  rw [Array.size_append]
  rfl
theorem cps_add (a b : Str) : (a ++ b).cps.toList = a.cps.toList ++ b.cps.toList := by
  show (a.cps ++ b.cps).toList = _
  rw [Array.toList_append]
theorem len_cps (z : Str) : z.cps.toList.length = z.length := Array.length_toList
theorem line_of {n : Nat} (h : n ≤ 100000) : n ≤ sizeLine := Nat.le_trans h (by decide)
theorem line_lt {n : Nat} (h : n < 100000) : n < sizeLine := Nat.lt_of_lt_of_le h (by decide)
/-- all that stood stands, st's own numbers aside -/
def Bt (st : Addr) (H H' : Hp) : Prop := ∀ b o, b ≠ st → H b = some o → H' b = some o
theorem Bt.refl (st : Addr) (H : Hp) : Bt st H H := fun _ _ _ h => h
theorem Bt.trans {st : Addr} {H H1 H2 : Hp} (a : Bt st H H1) (b : Bt st H1 H2) : Bt st H H2 := fun c o n h => b c o n (a c o n h)
theorem Bt.same {st : Addr} {H H' : Hp} (s : Same H H') : Bt st H H' := fun b o _ h => s b o h
theorem Bt.st {st : Addr} {H : Hp} {o : HO} : Bt st H (upd H st o) := fun b u n h => by rw [upd_ne n]; exact h
theorem Bt.free {st : Addr} {H H' : Hp} (s : Bt st H H') {l : Addr} (n : l ≠ st) (h : H' l = none) : H l = none := by
  cases q : H l with
  | none => rfl
  | some o => rw [s l o n q] at h; cases h
theorem DrAt.ne_new {H : Hp} {st scr p : Addr} (h : DrAt H st scr) (n : H p = none) : p ≠ st := by
  obtain ⟨l, e⟩ := h.lst
  exact (ne_of_none e n).symm

theorem DrAt.ne_scr {H : Hp} {st scr p : Addr} (h : DrAt H st scr) (n : H p = none) : p ≠ scr := by
  obtain ⟨ns, i, v, m, c, e1, e2, h3⟩ := h
  exact (ne_of_none e2 n).symm

/-! ### is_name -/
abbrev letters : Str := "abcdefghijklmnopqrstuvwxyz"
abbrev resv : List V := [.str "always", .str "never", .str "and", .str "or", .str "not", .str "when", .str "add", .str "set", .str "change", .str "tell", .str "refuse", .str "take", .str "look", .str "free", .str "lock", .str "keep", .str "keys", .str "fields"]
def isName (z : Str) : Bool := if (decide ((z.length : Int) < 1) || decide ((12 : Int) < z.length) || inV (.str z) resv) = true then false else z.cps.toList.all fun c => decide (c ∈ letters.cps.toList)
def sp_is_name (K : PySem.W.Frag) : Sp := fun vs H Q _ => ∃ z : Str, vs = [.str z] ∧ z.length ≤ 1000 ∧ ∀ H', Same H H' → Q (.bl (isName z)) H'
theorem len_is_name {vs : List V} {H : Hp} {Q : VK} {E : XK} (h : sp_is_name K vs H Q E) : vs.length = 1 := by
  obtain ⟨_, rfl, _⟩ := h
  rfl
theorem ok_is_name {f : Addr} {fd : FuncData} (F : Fun K "is_name" "is_name" s_is_name f fd) (T : Gs K mg t_LETTERS t_LONGEST_NAME a_DEEDS a_RESERVED a_BadName a_BadPlan a_ElseputError a_Plan a_UnknownName) : FnOk P w K mg base CX0 1 f fd ["text"] (sp_is_name K) := by
  refine F.ok sc_is_name (fun vs H Q E h => len_is_name h) (fun cdv A outer s H vs Q E hr h => ?_)
  obtain ⟨z, rfl, h0, q⟩ := h
  refine ⟨_, (pss_cons (ps_if (PW.pt (pw_or (pt_c op_ltM (pe_callB (lenK K) (by rfl) T.z_len PySem.boot_len (pa_cons (v_ 0) pa_nil)) pe_int) (pw_or (pt_c op_gtM (pe_callB (lenK K) (by rfl) T.z_len PySem.boot_len (pa_cons (v_ 0) pa_nil)) (pe_glob (v := .int 12) rfl T.g_LONGEST_NAME ⟨_, rfl⟩)) (pw_or1 (pt_c (inK K) (v_ 0) (pe_glob (v := .ref a_RESERVED) rfl T.g_RESERVED rfl)))))) (pss_one (ps_ret pe_bl)) pss_nil) (pss_one (ps_ret (pe_callB (allK K rfl) (by rfl) T.z_all (by decide +kernel) (pa_cons (pe_lc (own := [("letter", 1)]) (g := gName 1) (by rfl) sc_is_name.nd (pi_str (v_ 0)) (blkOk_by (N := ["text", "letter"]) (sc := defScope s_is_name) (by decide +kernel)) (fun _ _ _ _ _ => pg_name (i := 1) sc_is_name.nd rfl (Or.inl rfl)) (fun _ _ _ _ _ => pts_nil) (fun _ _ _ _ _ => (pe_c (inK K) (v_ 1) (pe_glob (v := .str "abcdefghijklmnopqrstuvwxyz") rfl T.g_LETTERS ⟨_, rfl⟩)))) pa_nil))))), ?_⟩
  refine ⟨line_of (by omega), ?_⟩
  have no : ∀ c : Bool, (decide ((z.length : Int) < 1) || decide ((12 : Int) < z.length) || inV (.str z) resv) = c → isName z = if c = true then false else z.cps.toList.all fun c => decide (c ∈ letters.cps.toList) := fun c e => by
    rw [← e]; rfl
  refine ite2 (fun e => ?_) (fun e => ?_)
  · have := q H (Same.refl H)
    rw [no true (by rw [show decide ((z.length : Int) < 1) = true from e]; rfl)] at this
    exact this
  refine ⟨line_of (by omega), ?_⟩
  refine ite2 (fun e1 => ?_) (fun e1 => ?_)
  · have := q H (Same.refl H)
    rw [no true (by rw [show decide ((12 : Int) < z.length) = true from e1, Bool.or_true]; rfl)] at this
    exact this
  refine ⟨_, .inr (T.q_RESERVED _), rfl, rfl, ?_⟩
  refine ite2 (fun e2 => ?_) (fun e2 => ?_)
  · have := q H (Same.refl H)
    rw [no true (by rw [show inV (.str z) resv = true from e2, Bool.or_true])] at this
    exact this
  have en : isName z = z.cps.toList.all fun c => decide (c ∈ letters.cps.toList) := by
    rw [no false (by rw [show decide ((z.length : Int) < 1) = false from Bool.eq_false_iff.mpr e, show decide ((12 : Int) < z.length) = false from Bool.eq_false_iff.mpr e1, show inV (.str z) resv = false from Bool.eq_false_iff.mpr e2]; rfl)]
    rfl
  refine ⟨z, rfl, fun D nD => lc_it walk_str (fun i H' => H' = upd H D (.lst (((z.cps.toList.take i).map fun c => decide (c ∈ letters.cps.toList)).map V.bl))) rfl (fun _ _ _ _ => True.intro) ?_ ?_⟩
  · rintro i x H1 H2 hi rfl ⟨rfl, c, hc, rfl⟩
    refine ⟨rfl, ?_⟩
    refine ⟨c, rfl, _, upd_same, ?_, ?_⟩
    · rw [List.length_map, List.length_map, List.length_take]
      have : z.cps.size = z.length := rfl
      exact small1000 (by omega)
    · rw [upd_upd]
      have e : z.cps.toList.take (i + 1) = z.cps.toList.take i ++ [c] := by
        rw [List.take_add_one, Array.getElem?_toList, hc]
        rfl
      rw [e, List.map_append, List.map_append]
      rfl
  · rintro H1 rfl
    rw [show z.cps.size = z.cps.toList.length from (Array.length_toList).symm, List.take_length]
    refine ⟨_, _, rfl, SqL.of upd_same, ?_⟩
    have := q _ (same_new nD (o := .lst ((z.cps.toList.map fun c => decide (c ∈ letters.cps.toList)).map V.bl)))
    rw [en] at this
    rw [List.all_map]
    exact this
end
section
variable {P : Program} {w : World} {K : PySem.W.Frag} {mg : Str → Option Value} {base : Heap}
variable {t_LETTERS t_LONGEST_NAME : Tok} {a_DEEDS a_RESERVED a_BadName a_BadPlan a_ElseputError a_Plan a_UnknownName : Addr}
/-! ### checks -/
theorem isName_mem {z : Str} (h : isName z = true) : (∀ c ∈ z.cps.toList, c ∈ letters.cps.toList) ∧ 1 ≤ z.length ∧ z.length ≤ 12 ∧ inV (.str z) resv = false := by
  unfold isName at h
  split at h
  · exact absurd h (by decide)
  · rename_i hc
    rw [Bool.not_eq_true, Bool.or_eq_false_iff, Bool.or_eq_false_iff, decide_eq_false_iff_not, decide_eq_false_iff_not] at hc
    exact ⟨fun c hm => of_decide_eq_true (List.all_eq_true.mp h c hm), by omega, by omega, hc.2⟩
theorem letters_small : ∀ c ∈ letters.cps.toList, c < 16 ^ 8 := by decide +kernel
theorem isName_asc {z : Str} (h : isName z = true) : Asc z := fun c hc => letters_small c ((isName_mem h).1 c hc)
def BadN (K : PySem.W.Frag) (H : Hp) (z : Str) (E : XK) : Prop := ∀ (C d : Addr) (H' : Hp), PySem.W.nsIn K mainGlobals "BadName" = some (some (.ref C)) → Same H H' → H d = none → H' d = some (.xd [("name", .str z)]) → E (.ref C) (some d) H'
theorem BadN.same {K : PySem.W.Frag} {H H1 : Hp} {z : Str} {E : XK} (h : BadN K H z E) (s : Same H H1) : BadN K H1 z E := fun C d H' hC s2 nd hd => h C d H' hC (s.trans s2) (Same.free s nd) hd
def okx_BadName (ws : List V) : Prop := ∃ z : Str, ws = [.str z] ∧ z.length ≤ 1000 ∧ Asc z
def fs_BadName (ws : List V) : List (Str × V) := match ws with | [l] => [("name", l)] | _ => []
theorem len_spE {C : Addr} {ok : List V → Prop} {fs : List V → List (Str × V)} {n : Nat} (hn : ∀ ws, ok ws → ws.length = n) {vs : List V} {H : Hp} {Q : VK} {E : XK} (h : spE C ok fs vs H Q E) : vs.length = n + 1 := by
  obtain ⟨a, ws, rfl, h, _⟩ := h
  rw [List.length_cons, hn _ h]
theorem log_200 {i : Int} (h : i.natAbs < 2 ^ 200) : i.natAbs.log2 < 1920 := by
  by_cases hz : i.natAbs = 0
  · rw [hz]
    decide
  · exact (Nat.log2_lt hz).mpr (Nat.lt_of_lt_of_le h (Nat.pow_le_pow_right (by decide) (by decide)))
theorem ok_BadName {C f cc cda : Addr} {doc pm ct oc ccl cl : Value} {od cdd cld : Option Addr} {osl ccs csl : Array (Option Value)} {vs0 : Array Value} {file : Str} {tf : Tok} {cdD : ClassData}
    (X : ExK K C f ["name"]) (lk : K.lookup f = some ⟨oc, od, .func (PySem.W.fnX "__init__" "BadName.__init__" (defArgs s_BadName) (defBody s_BadName) (defScope s_BadName) [("__class__", cc)] .none .none doc pm none (.ref cda) ct), osl⟩)
    (hcd : PySem.W.codeIn K (.ref cda) "BadName.__init__" = true) (hcode : K.lookup cda = some ⟨ccl, cdd, .fields vs0, ccs⟩) (hvs : vs0[2]? = some (.str file tf)) (hfile : ((P.main.file : Str) == file) = true)
    (hcell : K.lookup cc = some ⟨cl, cld, .cell (some (.ref C)), csl⟩) (hD : PySem.W.clsIn K C = some cdD) (hsuper : mg "super" = none) (hop : PySem.W.nsIn K PySem.cStatics "thirdparty.any" = some none) (htop : (P.main.scope.names.lookup ("super" : Str)).isSome = false) :
    FnOk P w K mg base CX0 1 f (PySem.W.fnX "__init__" "BadName.__init__" (defArgs s_BadName) (defBody s_BadName) (defScope s_BadName) [("__class__", cc)] .none .none doc pm none (.ref cda) ct) ["self", "name"] (spE C okx_BadName fs_BadName) := by
  refine fn_super lk hcd sc_BadName hcode hvs hfile hcell hD hsuper hop rfl rfl rfl htop rfl (fun vs H Q E h => len_spE (n := 1) (fun ws h => by obtain ⟨_, rfl, _⟩ := h; rfl) h) (fun A outer s H vs Q E hr h => ?_) (fun _ => rfl) (fun _ => rfl) (fun _ => rfl)
  obtain ⟨a, ws, rfl, ⟨l, rfl, l0, l1⟩, ea, q⟩ := h
  refine ⟨a, C, _, _, rfl, ea, X.oex, X.mro, X.sup, X.subV, pa_cons (pe_joined (.cons pe_str (.cons (pe_fmtR (v_ 1)) .nil))) pa_nil, pss_one (ps_ost (v_ 0) (v_ 1)), ?_⟩
  have tl := repr_le l1 l0
  have z0 : Str.empty.length = 0 := rfl
  have z1 : (Str.ofString "not a name: ").length = 12 := rfl
  refine ⟨_, rfl, line_of (by rw [len_add]; omega), .inl ⟨_, rfl, line_of (by omega), _, rfl, line_of (by rw [len_add, len_add]; omega), ?_⟩⟩
  refine ⟨ea, (by show 1 ≤ 1000; decide), ?_⟩
  exact ⟨a, C, rfl, X.oex, X.no _ (by simp), .inl ⟨ea, ost1 ea fun dx H' n ne e1 e2 hh => q dx _ n ne e1 e2 hh⟩⟩
theorem ok_BadPlan {C f cc cda : Addr} {doc pm ct oc ccl cl : Value} {od cdd cld : Option Addr} {osl ccs csl : Array (Option Value)} {vs0 : Array Value} {file : Str} {tf : Tok} {cdD : ClassData}
    (X : ExK K C f []) (lk : K.lookup f = some ⟨oc, od, .func (PySem.W.fnX "__init__" "BadPlan.__init__" (defArgs s_BadPlan) (defBody s_BadPlan) (defScope s_BadPlan) [("__class__", cc)] .none .none doc pm none (.ref cda) ct), osl⟩)
    (hcd : PySem.W.codeIn K (.ref cda) "BadPlan.__init__" = true) (hcode : K.lookup cda = some ⟨ccl, cdd, .fields vs0, ccs⟩) (hvs : vs0[2]? = some (.str file tf)) (hfile : ((P.main.file : Str) == file) = true)
    (hcell : K.lookup cc = some ⟨cl, cld, .cell (some (.ref C)), csl⟩) (hD : PySem.W.clsIn K C = some cdD) (hsuper : mg "super" = none) (hop : PySem.W.nsIn K PySem.cStatics "thirdparty.any" = some none) (htop : (P.main.scope.names.lookup ("super" : Str)).isSome = false) :
    FnOk P w K mg base CX0 1 f (PySem.W.fnX "__init__" "BadPlan.__init__" (defArgs s_BadPlan) (defBody s_BadPlan) (defScope s_BadPlan) [("__class__", cc)] .none .none doc pm none (.ref cda) ct) ["self"] (spE0 C) := by
  refine fn_super lk hcd sc_BadPlan hcode hvs hfile hcell hD hsuper hop rfl rfl rfl htop rfl (fun vs H Q E h => by obtain ⟨_, rfl, _⟩ := h; rfl) (fun A outer s H vs Q E hr h => ?_) (fun _ => rfl) (fun _ => rfl) (fun _ => rfl)
  obtain ⟨a, rfl, ea, q⟩ := h
  exact ⟨a, C, _, _, rfl, ea, X.oex, X.mro, X.sup, X.subV, pa_cons pe_str pa_nil, pss_nil, ea, (by show 1 ≤ 1000; decide), q⟩
def BadP (K : PySem.W.Frag) (H : Hp) (E : XK) : Prop := ∀ (B : Addr) (H' : Hp), PySem.W.nsIn K mainGlobals "BadPlan" = some (some (.ref B)) → Same H H' → E (.ref B) none H'
end
section
variable {P : Program} {w : World} {K : PySem.W.Frag} {mg : Str → Option Value} {base : Heap}
variable {t_LETTERS t_LONGEST_NAME : Tok} {a_DEEDS a_RESERVED a_BadName a_BadPlan a_ElseputError a_Plan a_UnknownName : Addr}
theorem inV_str {z : Str} : ∀ {xs : List Str}, inV (.str z) (xs.map V.str) = decide (z ∈ xs)
  | [] => rfl
  | a :: r => by
    have ih := inV_str (z := z) (xs := r)
    unfold inV at ih ⊢
    rw [List.map_cons, List.any_cons, ih]
    have : eqV (.str a) (.str z) = decide (z = a) := by
      show (a == z) = _
      rw [Bool.eq_iff_iff, beq_iff_eq, decide_eq_true_iff, eq_comm]
    rw [this, Bool.eq_iff_iff, Bool.or_eq_true, decide_eq_true_iff, decide_eq_true_iff, decide_eq_true_iff, List.mem_cons]
theorem flat_strs {xs : List Str} : (xs.map V.str).all flatV = true := by
  rw [List.all_map]
  exact List.all_eq_true.mpr fun _ _ => rfl
def sp__law_draw (K : PySem.W.Frag) : Sp := fun vs H Q _ => ∃ (st scr : Addr) (many : Int), vs = [.ref st, .int many] ∧ DrAt H st scr ∧ 0 < many ∧ many.natAbs < 2 ^ 200 ∧
  ∀ (r : Int) (l : List V), 0 ≤ r → r < many → DrAt (upd H st (.lst l)) st scr → Q (.int r) (upd H st (.lst l))
theorem len__law_draw {vs : List V} {H : Hp} {Q : VK} {E : XK} (h : sp__law_draw K vs H Q E) : vs.length = 2 := by
  obtain ⟨_, _, _, rfl, _⟩ := h
  rfl
theorem ok__law_draw {f : Addr} {fd : FuncData} (F : Fun K "_law_draw" "_law_draw" s__law_draw f fd) (T : Gs K mg t_LETTERS t_LONGEST_NAME a_DEEDS a_RESERVED a_BadName a_BadPlan a_ElseputError a_Plan a_UnknownName) : FnOk P w K mg base CX0 1 f fd ["_law_state_here", "_law_many"] (sp__law_draw K) := by
  refine F.ok sc__law_draw (fun vs H Q E h => len__law_draw h) (fun cdv A outer s H vs Q E hr h => ?_)
  obtain ⟨st, scr, many, rfl, ⟨ns, i, v, m, c, hst, hscr, hl, h0⟩, hm0, hm1, q⟩ := h
  have hne := DrAt.ne hst hscr
  refine ⟨_, (Evl.pss_cut (ps_if (pt_c (eqK K hr.units) (e_x K (v_ 0) pe_int) pe_int) (pss_cons (ps_if (pt_c op_geM (e_x K (v_ 0) pe_int) (pe_callB (lenK K) (by rfl) T.z_len PySem.boot_len (pa_cons (e_x K (v_ 0) pe_int) pa_nil))) (pss_one (ps_ret pe_int)) pss_nil) (pss_cons (ps_asg (pe_callTy call_intM (by rfl) T.z_int (by decide +kernel) (pa_cons (e_x K (e_x K (v_ 0) pe_int) (e_x K (v_ 0) pe_int)) pa_nil)) (pg_sub (v_ 0) pe_int set_list)) (pss_cons (ps_asg (pe_op (addK K) (e_x K (v_ 0) pe_int) pe_int) (pg_sub (v_ 0) pe_int set_list)) (pss_cons (ps_asg pe_int (pg_sub (v_ 0) pe_int set_list)) (pss_cons (ps_asg pe_int (pg_sub (v_ 0) pe_int set_list)) (pss_one (ps_if (pt_c op_ltM (e_x K (v_ 0) pe_int) (pe_op op_powM pe_int pe_int)) (pss_one (ps_asg pe_int (pg_sub (v_ 0) pe_int set_list))) pss_nil))))))) pss_nil) (pss_cons (ps_asg (pe_op (addK K) (e_x K (v_ 0) pe_int) pe_int) (pg_sub (v_ 0) pe_int set_list)) (pss_cons (ps_if (pt_c (eqK K hr.units) (e_x K (v_ 0) pe_int) pe_int) (pss_cons (ps_set (i := 5) sc__law_draw.nd rfl (.inl rfl) (pe_op op_modM (pe_callTy call_intM (by rfl) T.z_int (by decide +kernel) (pa_cons (e_x K (v_ 0) pe_int) pa_nil)) (v_ 1))) (pss_cons (ps_asg (pe_op op_divM (pe_callTy call_intM (by rfl) T.z_int (by decide +kernel) (pa_cons (e_x K (v_ 0) pe_int) pa_nil)) (v_ 1)) (pg_sub (v_ 0) pe_int set_list)) (Evl.pss_cut (ps_if (PW.pt (pw_or (pt_c (eqK K hr.units) (e_x K (v_ 0) pe_int) pe_int) (pw_or1 (pt_c op_geM (e_x K (v_ 0) pe_int) pe_int)))) (pss_one (ps_asg pe_int (pg_sub (v_ 0) pe_int set_list))) pss_nil) (pss_one (ps_ret (v_ 5)))))) pss_nil) (pss_cons (ps_set (i := 2) sc__law_draw.nd rfl (.inl rfl) (pe_op op_modM (pe_callTy call_intM (by rfl) T.z_int (by decide +kernel) (pa_cons (pe_op (addK K) (pe_op op_mulSM (e_x K (v_ 0) pe_int) pe_int) (pe_op op_mulSM (e_x K (v_ 0) pe_int) pe_int)) pa_nil)) pe_int)) (pss_cons (ps_set (i := 3) sc__law_draw.nd rfl (.inl rfl) (pe_op op_modM (pe_callTy call_intM (by rfl) T.z_int (by decide +kernel) (pa_cons (pe_op (addK K) (pe_op (addK K) (pe_op op_mulSM (v_ 2) (v_ 2)) (pe_op op_mulSM (e_x K (v_ 0) pe_int) pe_int)) pe_int) pa_nil)) pe_int)) (Evl.pss_cut (ps_if (pt_c op_geM (e_x K (v_ 0) pe_int) pe_int) (pss_one (ps_asg pe_int (pg_sub (v_ 0) pe_int set_list))) pss_nil) (pss_cons (ps_set (i := 4) sc__law_draw.nd rfl (.inl rfl) (pe_op op_modM (pe_callTy call_intM (by rfl) T.z_int (by decide +kernel) (pa_cons (pe_op (addK K) (pe_op op_mulSM (v_ 3) pe_int) (v_ 2)) pa_nil)) pe_int)) (pss_one (ps_ret (pe_op op_modM (pe_callTy call_intM (by rfl) T.z_int (by decide +kernel) (pa_cons (v_ 4) pa_nil)) (v_ 1))))))))))), ?_⟩
  refine ⟨fun σ' H' => σ' = [some (.ref st), some (.int many), none, none, none, none] ∧ ∃ i v m c, H' = upd H st (.lst (stv scr i v m c)) ∧ 0 ≤ i, ?_, ?_⟩
  · refine ⟨_, .inl (SqL.of hst), _, rfl, ?_⟩
    refine ite2 (fun e => ?_) (fun e => ?_)
    · refine ⟨_, .inl (SqL.of hst), _, rfl, _, .inl (SqL.of hst), _, rfl, .inl ⟨_, .inl (SqL.of hscr), ?_⟩⟩
      refine ite2 (fun e1 => ?_) (fun e1 => ?_)
      · have z := q 0 (stv scr i v m c) (by omega) hm0 (DrAt.upd hst hscr hl h0)
        rw [upd_id hst] at z
        exact z
      · have e2 := of_decide_eq_false (Bool.eq_false_iff.mpr e1)
        rw [List.length_map] at e2
        obtain ⟨z, hz⟩ : ∃ z, atI (ns.map V.int) i = some (.int z) := by
          have hi : i.toNat < ns.length := by omega
          refine ⟨ns[i.toNat], ?_⟩
          have hq : atI (ns.map V.int) ((i.toNat : Nat) : Int) = some (.int ns[i.toNat]) := atI_nat (by rw [List.getElem?_map, List.getElem?_eq_getElem hi]; rfl)
          rwa [show ((i.toNat : Nat) : Int) = i by omega] at hq
        refine ⟨_, .inl (SqL.of hst), _, rfl, _, .inl (SqL.of hst), _, rfl, _, .inl (SqL.of hscr), _, hz, ?_⟩
        refine ⟨_, _, _, 2, rfl, rfl, hst, rfl, ?_⟩
        refine ⟨_, .inl (SqL.of upd_same), _, rfl, ?_⟩
        refine ⟨_, _, _, 1, rfl, rfl, upd_same, rfl, ?_⟩
        refine ⟨_, _, _, 3, rfl, rfl, upd_same, rfl, ?_⟩
        refine ⟨_, _, _, 4, rfl, rfl, upd_same, rfl, ?_⟩
        refine ⟨_, .inl (SqL.of upd_same), _, rfl, (by unfold CPow; decide), ?_⟩
        refine ite2 (fun e3 => ?_) (fun e3 => ?_)
        · refine ⟨_, _, _, 3, rfl, rfl, upd_same, rfl, rfl, i + 1, z, 2, 0, ?_, by omega⟩
          rw [upd_upd, upd_upd, upd_upd, upd_upd]
          rfl
        · refine ⟨rfl, i + 1, z, 1, 0, ?_, by omega⟩
          rw [upd_upd, upd_upd, upd_upd]
          rfl
    · exact ⟨rfl, i, v, m, c, (upd_id hst).symm, h0⟩
  · rintro σ' H' ⟨rfl, i, v, m, c, rfl, h0⟩
    have hscr' : ∀ o, upd H st o scr = some (.lst (ns.map V.int)) := fun o => by rw [upd_ne hne]; exact hscr
    refine ⟨_, .inl (SqL.of upd_same), _, rfl, ?_⟩
    refine ⟨_, _, _, 4, rfl, rfl, upd_same, rfl, ?_⟩
    rw [upd_upd]
    refine ⟨_, .inl (SqL.of upd_same), _, rfl, ?_⟩
    refine ite2 (fun e => ?_) (fun e => ?_)
    · refine ⟨_, .inl (SqL.of upd_same), _, rfl, hm0, ?_⟩
      refine ⟨_, .inl (SqL.of upd_same), _, rfl, .inr (wide_div hm0 (b := 200) hm1 (by decide) (by decide)), ?_⟩
      refine ⟨_, _, _, 2, rfl, rfl, upd_same, rfl, ?_⟩
      rw [upd_upd]
      have fin : ∀ m' : Int, Q (.int (v % many)) (upd H st (.lst (stv scr i (v / many) m' (c + 1)))) := fun m' => q _ _ (Int.emod_nonneg _ (by omega)) (Int.emod_lt_of_pos _ hm0) (DrAt.upd hst hscr hl h0)
      refine ⟨fun σ' H' => σ' = [some (.ref st), some (.int many), none, none, none, some (.int (v % many))] ∧ ∃ m', H' = upd H st (.lst (stv scr i (v / many) m' (c + 1))), ?_, ?_⟩
      · refine ⟨_, .inl (SqL.of upd_same), _, rfl, ?_⟩
        refine ite2 (fun e1 => ?_) (fun e1 => ?_)
        · refine ⟨_, _, _, 3, rfl, rfl, upd_same, rfl, rfl, 0, ?_⟩
          rw [upd_upd]
          rfl
        · refine ⟨_, .inl (SqL.of upd_same), _, rfl, ?_⟩
          refine ite2 (fun e1 => ?_) (fun e1 => ?_)
          · refine ⟨_, _, _, 3, rfl, rfl, upd_same, rfl, rfl, 0, ?_⟩
            rw [upd_upd]
            rfl
          · exact ⟨rfl, m, rfl⟩
      · rintro σ' H' ⟨rfl, m', rfl⟩
        exact fin m'
    · refine ⟨_, .inl (SqL.of upd_same), _, rfl, .inl (.inr ⟨by decide, by decide⟩), ?_⟩
      refine ⟨_, .inl (SqL.of upd_same), _, rfl, .inl (.inr ⟨by decide, by decide⟩), (by decide), ?_⟩
      have f0 := Int.emod_nonneg (v * 48271 + (c + 1) * 69621) (by decide : (2147483647 : Int) ≠ 0)
      have f1 := Int.emod_lt_of_pos (v * 48271 + (c + 1) * 69621) (by decide : (0 : Int) < 2147483647)
      refine ⟨.inl (.inl ⟨by omega, by omega⟩), ?_⟩
      refine ⟨_, .inl (SqL.of upd_same), _, rfl, .inl (.inr ⟨by decide, by decide⟩), (by decide), ?_⟩
      have fin : ∀ (m' x : Int), Q (.int (x % many)) (upd H st (.lst (stv scr i v m' (c + 1)))) := fun m' x => q _ _ (Int.emod_nonneg _ (by omega)) (Int.emod_lt_of_pos _ hm0) (DrAt.upd hst hscr hl h0)
      refine ⟨fun σ' H' => (∃ a b, σ' = [some (.ref st), some (.int many), some (.int a), some (.int b), none, none]) ∧ ∃ m', H' = upd H st (.lst (stv scr i v m' (c + 1))), ?_, ?_⟩
      · refine ⟨_, .inl (SqL.of upd_same), _, rfl, ?_⟩
        refine ite2 (fun e1 => ?_) (fun e1 => ?_)
        · refine ⟨_, _, _, 3, rfl, rfl, upd_same, rfl, ⟨_, _, rfl⟩, 0, ?_⟩
          rw [upd_upd]
          rfl
        · exact ⟨⟨_, _, rfl⟩, m, rfl⟩
      · rintro σ' H' ⟨⟨a, b, rfl⟩, m', rfl⟩
        refine ⟨.inl (.inr ⟨by decide, by decide⟩), (by decide), hm0, ?_⟩
        exact fin m' _

/-! ### _law_state -/
def sp__law_state (K : PySem.W.Frag) : Sp := fun vs H Q _ => ∃ (a : Addr) (ns : List Int), vs = [.ref a] ∧ SqL K H a (ns.map V.int) ∧ ns.length ≤ 63 ∧
  ∀ (H' : Hp) (st scr : Addr), Same H H' → H st = none → H scr = none → DrAt H' st scr → Q (.ref st) H'
theorem len__law_state {vs : List V} {H : Hp} {Q : VK} {E : XK} (h : sp__law_state K vs H Q E) : vs.length = 1 := by
  obtain ⟨_, _, rfl, _⟩ := h
  rfl
theorem ok__law_state {f : Addr} {fd : FuncData} (F : Fun K "_law_state" "_law_state" s__law_state f fd) (T : Gs K mg t_LETTERS t_LONGEST_NAME a_DEEDS a_RESERVED a_BadName a_BadPlan a_ElseputError a_Plan a_UnknownName) : FnOk P w K mg base CX0 1 f fd ["_law_script"] (sp__law_state K) := by
  refine F.ok sc__law_state (fun vs H Q E h => len__law_state h) (fun cdv A outer s H vs Q E hr h => ?_)
  obtain ⟨a, ns, rfl, hS, hl, q⟩ := h
  refine ⟨_, (pss_one (ps_ret (pe_lst (pa_cons (pe_callTy (listK K) (by rfl) T.z_list (by decide +kernel) (pa_cons (v_ 0) pa_nil)) (pa_cons pe_int (pa_cons pe_int (pa_cons pe_int (pa_cons pe_int pa_nil)))))))), ?_⟩
  refine ⟨_, _, rfl, .inl hS, fun l nl => ?_⟩
  refine ⟨(by show 5 ≤ sizeLine; decide), fun st nst => ?_⟩
  have hne := new_ne nst
  refine q _ st l ((same_new nl).trans (same_new nst)) (free_new nst) nl ⟨ns, 0, 0, 0, 0, upd_same, ?_, hl, by omega⟩
  rw [upd_ne hne.symm, upd_same]

theorem at_list {α : Type} {xs : List α} {r : Int} (h0 : 0 ≤ r) (h1 : r < xs.length) : ∃ x, atI xs r = some x ∧ x ∈ xs := by
  have hi : r.toNat < xs.length := by omega
  refine ⟨xs[r.toNat], ?_, List.getElem_mem hi⟩
  have hq : atI xs ((r.toNat : Nat) : Int) = some xs[r.toNat] := atI_nat (List.getElem?_eq_getElem hi)
  rwa [show ((r.toNat : Nat) : Int) = r by omega] at hq
theorem at_str {z : Str} {r : Int} (h0 : 0 ≤ r) (h1 : r < z.length) : ∃ c, atI z.cps.toList r = some c ∧ c ∈ z.cps.toList := at_list h0 (by rw [len_cps]; exact h1)
theorem many_small {m : Int} (h0 : 0 < m) (h1 : m ≤ 1000000000) : m.natAbs < 2 ^ 200 := Nat.lt_of_le_of_lt (show m.natAbs ≤ 2 ^ 30 by omega) (Nat.pow_lt_pow_right (by decide) (by decide))
/-! ### _law_pick -/
def sp__law_pick (K : PySem.W.Frag) : Sp := fun vs H Q _ => ∃ (st scr : Addr) (v : V), vs = [.ref st, v] ∧ DrAt H st scr ∧
  ((∃ z : Str, v = .str z ∧ 0 < z.length ∧ z.length ≤ 1000 ∧ ∀ (c : Nat) (l : List V), c ∈ z.cps.toList → DrAt (upd H st (.lst l)) st scr → Q (.str ⟨#[c]⟩) (upd H st (.lst l))) ∨
    ∃ (p : Addr) (xs : List V), v = .ref p ∧ H p = some (.lst xs) ∧ p ≠ st ∧ 0 < xs.length ∧ xs.length ≤ 1000 ∧ ∀ (x : V) (l : List V), x ∈ xs → DrAt (upd H st (.lst l)) st scr → Q x (upd H st (.lst l)))
theorem len__law_pick {vs : List V} {H : Hp} {Q : VK} {E : XK} (h : sp__law_pick K vs H Q E) : vs.length = 2 := by
  obtain ⟨_, _, _, rfl, _⟩ := h
  rfl
theorem ok__law_pick {f : Addr} {fd : FuncData} {f__law_draw : Addr} {fd__law_draw : FuncData} (F : Fun K "_law_pick" "_law_pick" s__law_pick f fd) (T : Gs K mg t_LETTERS t_LONGEST_NAME a_DEEDS a_RESERVED a_BadName a_BadPlan a_ElseputError a_Plan a_UnknownName) (c__law_draw : Cal P w K mg base CX0 1 "_law_draw" f__law_draw fd__law_draw ["_law_state_here", "_law_many"] (sp__law_draw K)) : FnOk P w K mg base CX0 2 f fd ["_law_state_here", "_law_row"] (sp__law_pick K) := by
  refine F.ok sc__law_pick (fun vs H Q E h => len__law_pick h) (fun cdv A outer s H vs Q E hr h => ?_)
  obtain ⟨st, scr, v, rfl, hd, h⟩ := h
  refine ⟨_, (pss_one (ps_ret (e_x K (v_ 1) (pe_call c__law_draw.G (hr.mono (by first | decide | omega)) rfl c__law_draw.m c__law_draw.kp c__law_draw.b .nil pass0 (pa_cons (v_ 0) (pa_cons (pe_callB (lenK K) (by rfl) T.z_len PySem.boot_len (pa_cons (v_ 1) pa_nil)) pa_nil)))))), ?_⟩
  rcases h with ⟨z, rfl, h0, h1, q⟩ | ⟨p, xs, rfl, hp, hne, h0, h1, q⟩
  · refine ⟨line_of (by omega), st, scr, _, rfl, hd, by omega, many_small (by omega) (by omega), fun r l r0 r1 hd' => ?_⟩
    obtain ⟨c, hc, hm⟩ := at_str r0 r1
    exact ⟨line_of (by omega), c, hc, q c l hm hd'⟩
  · refine .inl ⟨_, .inl (SqL.of hp), st, scr, _, rfl, hd, by omega, many_small (by omega) (by omega), fun r l r0 r1 hd' => ?_⟩
    obtain ⟨x, hx, hm⟩ := at_list r0 r1
    exact ⟨_, .inl (SqL.of (by rw [upd_ne hne]; exact hp)), x, hx, q x l hm hd'⟩

theorem cutV_take (xs : List V) {k : Int} (h : 0 ≤ k) : cutV xs none (some k) = xs.take k.toNat := by
  unfold cutV
  have e := HT.sIx_nat xs.length xs.length k.toNat
  rw [show ((k.toNat : Nat) : Int) = k by omega] at e
  rw [e, HT.sIx_none, List.drop_zero]
  by_cases hk : k.toNat ≤ xs.length
  · rw [Nat.min_eq_left hk, Nat.sub_zero]
  · rw [Nat.min_eq_right (by omega), Nat.sub_zero, List.take_length, List.take_of_length_le (by omega)]
theorem cutV_drop (xs : List V) {k : Int} (h : 0 ≤ k) : cutV xs (some k) none = xs.drop k.toNat := by
  unfold cutV
  have e := HT.sIx_nat xs.length 0 k.toNat
  rw [show ((k.toNat : Nat) : Int) = k by omega] at e
  rw [e, HT.sIx_none]
  by_cases hk : k.toNat ≤ xs.length
  · rw [Nat.min_eq_left hk, List.take_of_length_le (by rw [List.length_drop]; omega)]
  · rw [Nat.min_eq_right (by omega), List.drop_of_length_le (Nat.le_refl _), List.drop_of_length_le (by omega)]
    exact List.take_nil
def sp_check_name (K : PySem.W.Frag) : Sp := fun vs H Q E => ∃ z : Str, vs = [.str z] ∧ z.length ≤ 1000 ∧ Asc z ∧ (if isName z = true then ∀ H', Same H H' → Q .non H' else BadN K H z E)
theorem len_check_name {vs : List V} {H : Hp} {Q : VK} {E : XK} (h : sp_check_name K vs H Q E) : vs.length = 1 := by
  obtain ⟨_, rfl, _⟩ := h
  rfl
theorem ok_check_name {f : Addr} {fd : FuncData} {f_is_name : Addr} {fd_is_name : FuncData} {f_BadName : Addr} {fd_BadName : FuncData} (F : Fun K "check_name" "check_name" s_check_name f fd) (T : Gs K mg t_LETTERS t_LONGEST_NAME a_DEEDS a_RESERVED a_BadName a_BadPlan a_ElseputError a_Plan a_UnknownName) (c_is_name : Cal P w K mg base CX0 1 "is_name" f_is_name fd_is_name ["text"] (sp_is_name K)) (c_BadName : CalE P w K mg base 1 "BadName" a_BadName f_BadName fd_BadName ["self", "name"] okx_BadName fs_BadName ["name"]) : FnOk P w K mg base (L2.CX P w) 3 f fd ["text"] (sp_check_name K) := by
  refine F.okX sc_check_name (fun vs H Q E h => len_check_name h) (fun cdv A outer s H vs Q E hr h => ?_)
  obtain ⟨z, rfl, h0, h1, q⟩ := h
  refine ⟨_, (pss_one (ps_if (pt_not (pt_t K (pe_call c_is_name.G (hr.mono (by first | decide | omega)) rfl c_is_name.m c_is_name.kp c_is_name.b .nil pass0 (pa_cons (v_ 0) pa_nil)))) (pss_one (ps_raise rfl (takes_of rfl rfl rfl rfl) (pmk_oex c_BadName.X.oex c_BadName.X.iC c_BadName.X.tI c_BadName.G (hr.mono (by first | decide | omega)) c_BadName.b .nil pass0 rfl c_BadName.m (pa_cons (v_ 0) pa_nil)))) pss_nil)), ?_⟩
  refine ⟨z, rfl, h0, fun H' s => ?_⟩
  refine ite2 (fun e => ?_) (fun e => ?_)
  · have e : ¬ isName z = true := by
      have e : (!isName z) = true := e
      rw [Bool.not_eq_true'] at e
      rw [e]
      decide
    rw [if_neg e] at q
    refine mk_spE (by show 1 ≤ 1000; decide) ⟨z, rfl, h0, h1⟩ (fun d nd => ?_)
    exact q a_BadName d _ T.n_BadName (s.trans (same_new nd)) (Same.free s nd) upd_same
  · have e : isName z = true := by
      have e : ¬ (!isName z) = true := e
      rw [Bool.not_eq_true, Bool.not_eq_false'] at e
      exact e
    rw [if_pos e] at q
    exact q H' s
theorem take_snoc {α : Type} {xs : List α} {i : Nat} {x : α} (h : xs[i]? = some x) : xs.take (i + 1) = xs.take i ++ [x] := by
  rw [List.take_add_one, h]
  rfl
theorem SqT.same {K : PySem.W.Frag} {H H' : Hp} {a : Addr} {xs : List V} (h : SqT K H a xs) (s : Same H H') : SqT K H' a xs := by
  rcases h with (h | ⟨o, h⟩) | h
  · exact .inl (.inl (s _ _ h))
  · exact .inl (.inr ⟨o, s _ _ h⟩)
  · exact .inr h
/-- no tuple stands at st -/
def NT (H : Hp) (st : Addr) : Prop := ∀ xs : List V, H st ≠ some (.tup xs) ∧ ∀ o, H st ≠ some (.frz o (.tup xs))
theorem NT.lst {H : Hp} {st : Addr} (h : ∃ l, H st = some (.lst l)) : NT H st := fun xs => by
  obtain ⟨l, h⟩ := h
  rw [h]
  exact ⟨(fun e => by cases e), (fun o e => by cases e)⟩
theorem NT.ins {H : Hp} {st C dx : Addr} {fs : List (Str × V)} (h : H st = some (.ins C dx fs)) : NT H st := fun xs => by
  rw [h]
  exact ⟨(fun e => by cases e), (fun o e => by cases e)⟩
theorem SqT.bt {K : PySem.W.Frag} {H H' : Hp} {a st : Addr} {xs : List V} (h : SqT K H a xs) (hs : NT H st) (s : Bt st H H') : SqT K H' a xs := by
  rcases h with (h | ⟨o, h⟩) | h
  · exact .inl (.inl (s _ _ (fun e => (hs xs).1 (e ▸ h)) h))
  · exact .inl (.inr ⟨o, s _ _ (fun e => (hs xs).2 o (e ▸ h)) h⟩)
  · exact .inr h
theorem ty_tup {K : PySem.W.Frag} {H : Hp} {a : Addr} {xs : List V} (h : SqT K H a xs) : TyX K H (.ref a) (.type "tuple") := by
  rcases h with (h | ⟨o, h⟩) | ⟨o, its, n, e, c, _⟩
  · exact .base (.tup h)
  · exact .fTuple h
  · exact .kTuple e c
/-! ### comprehensions without effects -/
/-- what such a comprehension has made by its turn i -/
def PvP (H1 : Hp) (D : Addr) (acc : Nat → List V) (i : Nat) (H' : Hp) : Prop := Same H1 H' ∧ H' D = some (.lst (acc i))
theorem pvp_start {H1 : Hp} {D : Addr} {acc : Nat → List V} (nD : H1 D = none) (h0 : acc 0 = []) : PvP H1 D acc 0 (upd H1 D (.lst [])) := ⟨same_new nD, by rw [upd_same, h0]⟩
theorem pvp_put {H1 H2 H4 : Hp} {D : Addr} {acc : Nat → List V} {i : Nat} {y : V} (nD : H1 D = none) (p : PvP H1 D acc i H2) (s : Same H2 H4) (e : acc (i + 1) = acc i ++ [y]) (l : (acc i).length < 100000) :
    ∃ a, H4 D = some (.lst a) ∧ a.length < sizeLine ∧ PvP H1 D acc (i + 1) (upd H4 D (.lst (a ++ [y]))) :=
  ⟨acc i, s _ _ p.2, line_lt l, fun b o hb => by rw [upd_ne (ne_of_none hb nD)]; exact s _ _ (p.1 _ _ hb), by rw [upd_same, e]⟩
theorem pvp_skip {H1 H2 H4 : Hp} {D : Addr} {acc : Nat → List V} {i : Nat} (p : PvP H1 D acc i H2) (s : Same H2 H4) (e : acc (i + 1) = acc i) : PvP H1 D acc (i + 1) H4 := ⟨p.1.trans s, by rw [e]; exact s _ _ p.2⟩
/-- those of the first i that pass -/
def keepF {α : Type} (xs : List α) (p : α → Bool) (f : α → V) (i : Nat) : List V := ((xs.take i).filter p).map f
theorem keepF_put {α : Type} {xs : List α} {p : α → Bool} {f : α → V} {i : Nat} {x : α} (e : xs[i]? = some x) (h : p x = true) : keepF xs p f (i + 1) = keepF xs p f i ++ [f x] := by
  unfold keepF
  rw [take_snoc e, List.filter_append, List.filter_cons_of_pos h, List.map_append]
  rfl
theorem keepF_skip {α : Type} {xs : List α} {p : α → Bool} {f : α → V} {i : Nat} {x : α} (e : xs[i]? = some x) (h : ¬ p x = true) : keepF xs p f (i + 1) = keepF xs p f i := by
  unfold keepF
  rw [take_snoc e, List.filter_append, List.filter_cons_of_neg h, List.filter_nil, List.append_nil]
theorem keepF_len {α : Type} {xs : List α} {p : α → Bool} {f : α → V} {i : Nat} : (keepF xs p f i).length ≤ xs.length := by
  unfold keepF
  rw [List.length_map]
  have h1 := List.length_filter_le p (xs.take i)
  rw [List.length_take] at h1
  omega
theorem keepF_all {α : Type} {xs : List α} {p : α → Bool} {f : α → V} {n : Nat} (h : n = xs.length) : keepF xs p f n = (xs.filter p).map f := by
  unfold keepF
  rw [h, List.take_length]
def mapF {α : Type} (xs : List α) (f : α → V) (i : Nat) : List V := (xs.take i).map f
theorem mapF_put {α : Type} {xs : List α} {f : α → V} {i : Nat} {x : α} (e : xs[i]? = some x) : mapF xs f (i + 1) = mapF xs f i ++ [f x] := by
  unfold mapF
  rw [take_snoc e, List.map_append]
  rfl
theorem mapF_len {α : Type} {xs : List α} {f : α → V} {i : Nat} : (mapF xs f i).length ≤ xs.length := by
  unfold mapF
  rw [List.length_map, List.length_take]
  omega
theorem mapF_all {α : Type} {xs : List α} {f : α → V} {n : Nat} (h : n = xs.length) : mapF xs f n = xs.map f := by
  unfold mapF
  rw [h, List.take_length]
/-! ### steps -/
abbrev Stp := Str × Str
abbrev tk (k : Str) : Stp := ("take", k)
abbrev lo (k : Str) : Stp := ("look", k)
abbrev fr (k : Str) : Stp := ("free", k)
def deeds : List Str := ["take", "look", "free"]
def looked (ps : List Stp) : List Str := (ps.filter fun p => decide (p.1 = ("look" : Str))).map (·.2)
def stepFits (ps : List Stp) (i : Nat) (p : Stp) : Bool := if p.1 = "free" ∧ tk p.2 ∉ ps.take i then false else decide (p.1 ∈ deeds) && decide (lo p.2 ∈ ps)
def stepsFit (ps : List Stp) : Bool := decide (ps ≠ []) && decide ps.Nodup && (List.range ps.length).all fun i => match ps[i]? with
  | some p => stepFits ps i p
  | none => false
def keysFit (ps : List Stp) (zs : List Str) : Bool := decide zs.Nodup && zs.all fun z => decide (lo z ∈ ps)
theorem pair_same {K : PySem.W.Frag} {H H' : Hp} {v : V} {p : Stp} (h : PairAt K H v p) (s : Same H H') : PairAt K H' v p := by
  obtain ⟨r, e, h⟩ := h
  exact ⟨r, e, SqT.same h s⟩
theorem pair_bt {K : PySem.W.Frag} {H H' : Hp} {st : Addr} {v : V} {p : Stp} (h : PairAt K H v p) (hs : NT H st) (s : Bt st H H') : PairAt K H' v p := by
  obtain ⟨r, e, h⟩ := h
  exact ⟨r, e, SqT.bt h hs s⟩
theorem pairs_map {K : PySem.W.Frag} {H H' : Hp} (f : ∀ v p, PairAt K H v p → PairAt K H' v p) {vs : List V} {ps : List Stp} (h : PairsIn K H vs ps) : PairsIn K H' vs ps := by
  induction h with
  | nil => exact .nil
  | cons a _ ih => exact .cons (f _ _ a) ih
theorem pairs_same {K : PySem.W.Frag} {H H' : Hp} {vs : List V} {ps : List Stp} (h : PairsIn K H vs ps) (s : Same H H') : PairsIn K H' vs ps := pairs_map (fun _ _ a => pair_same a s) h
theorem pairs_bt {K : PySem.W.Frag} {H H' : Hp} {st : Addr} {vs : List V} {ps : List Stp} (h : PairsIn K H vs ps) (hs : NT H st) (s : Bt st H H') : PairsIn K H' vs ps := pairs_map (fun _ _ a => pair_bt a hs s) h
theorem pairs_len {K : PySem.W.Frag} {H : Hp} {vs : List V} {ps : List Stp} (h : PairsIn K H vs ps) : vs.length = ps.length := by
  induction h with
  | nil => rfl
  | cons _ _ ih => rw [List.length_cons, List.length_cons, ih]
theorem pairs_at {K : PySem.W.Frag} {H : Hp} {vs : List V} {ps : List Stp} (h : PairsIn K H vs ps) : ∀ {i : Nat} {v : V}, vs[i]? = some v → ∃ p, ps[i]? = some p ∧ PairAt K H v p := by
  induction h with
  | nil => intro i v e; simp at e
  | @cons a p as ps h1 _ ih =>
    intro i v e
    cases i with
    | zero => cases e; exact ⟨p, rfl, h1⟩
    | succ i => exact ih e
theorem pairs_to {K : PySem.W.Frag} {H : Hp} {vs : List V} {ps : List Stp} (h : PairsIn K H vs ps) {i : Nat} {p : Stp} (e : ps[i]? = some p) : ∃ v, vs[i]? = some v ∧ PairAt K H v p := by
  have l := pairs_len h
  have il := (List.getElem?_eq_some_iff.mp e).1
  obtain ⟨q, e2, hq⟩ := pairs_at h (List.getElem?_eq_getElem (show i < vs.length by omega))
  rw [e] at e2
  cases e2
  exact ⟨_, List.getElem?_eq_getElem (by omega), hq⟩
theorem pairs_take {K : PySem.W.Frag} {H : Hp} {vs : List V} {ps : List Stp} (h : PairsIn K H vs ps) : ∀ n, PairsIn K H (vs.take n) (ps.take n) := by
  induction h with
  | nil => intro n; rw [List.take_nil, List.take_nil]; exact .nil
  | cons a _ ih =>
    intro n
    cases n with
    | zero => exact .nil
    | succ n => exact .cons a (ih n)
theorem pairs_snoc {K : PySem.W.Frag} {H : Hp} {vs : List V} {ps : List Stp} {v : V} {p : Stp} (h : PairsIn K H vs ps) (a : PairAt K H v p) : PairsIn K H (vs ++ [v]) (ps ++ [p]) := by
  induction h with
  | nil => exact .cons a .nil
  | cons b _ ih => exact .cons b ih
/-- a tuple of steps -/
def StT (K : PySem.W.Frag) (H : Hp) (t : Addr) (ps : List Stp) : Prop := ∃ vs, SqT K H t vs ∧ PairsIn K H vs ps
theorem StT.same {K : PySem.W.Frag} {H H' : Hp} {t : Addr} {ps : List Stp} (h : StT K H t ps) (s : Same H H') : StT K H' t ps := by
  obtain ⟨vs, h1, h2⟩ := h
  exact ⟨vs, SqT.same h1 s, pairs_same h2 s⟩
theorem StT.bt {K : PySem.W.Frag} {H H' : Hp} {st t : Addr} {ps : List Stp} (h : StT K H t ps) (hs : NT H st) (s : Bt st H H') : StT K H' t ps := by
  obtain ⟨vs, h1, h2⟩ := h
  exact ⟨vs, SqT.bt h1 hs s, pairs_bt h2 hs s⟩
/-- a new pair -/
theorem pair_new {K : PySem.W.Frag} {H : Hp} {r : Addr} {a b : Str} : PairAt K (upd H r (.tup [.str a, .str b])) (.ref r) (a, b) := ⟨r, rfl, SqT.of upd_same⟩
/-- a tuple of texts -/
def TxT (K : PySem.W.Frag) (H : Hp) (t : Addr) (zs : List Str) : Prop := SqT K H t (zs.map V.str)
/-- texts in a list or a tuple -/
def TxS (K : PySem.W.Frag) (H : Hp) (t : Addr) (zs : List Str) : Prop := SqT K H t (zs.map V.str) ∨ SqL K H t (zs.map V.str)
theorem TxS.same {K : PySem.W.Frag} {H H' : Hp} {t : Addr} {zs : List Str} (h : TxS K H t zs) (s : Same H H') : TxS K H' t zs := h.imp (fun h => SqT.same h s) (fun h => s.seq h)
/-- a plan -/
def PlAt (K : PySem.W.Frag) (H : Hp) (a : Addr) (ps : List Stp) (lk kp : List Str) : Prop := ∃ C dx t l k : Addr, PySem.W.nsIn K mainGlobals "Plan" = some (some (.ref C)) ∧ H a = some (.ins C dx [("steps", .ref t), ("locked", .ref l), ("kept", .ref k)]) ∧ StT K H t ps ∧ TxT K H l lk ∧ TxT K H k kp
theorem PlAt.same {K : PySem.W.Frag} {H H' : Hp} {a : Addr} {ps : List Stp} {lk kp : List Str} (h : PlAt K H a ps lk kp) (s : Same H H') : PlAt K H' a ps lk kp := by
  obtain ⟨C, dx, t, l, k, h1, h2, h3, h4, h5⟩ := h
  exact ⟨C, dx, t, l, k, h1, s _ _ h2, h3.same s, SqT.same h4 s, SqT.same h5 s⟩
theorem PlAt.bt {K : PySem.W.Frag} {H H' : Hp} {st a : Addr} {ps : List Stp} {lk kp : List Str} (h : PlAt K H a ps lk kp) (hs : ∃ l, H st = some (.lst l)) (s : Bt st H H') : PlAt K H' a ps lk kp := by
  obtain ⟨C, dx, t, l, k, h1, h2, h3, h4, h5⟩ := h
  refine ⟨C, dx, t, l, k, h1, s _ _ (fun e => ?_) h2, h3.bt (NT.lst hs) s, SqT.bt h4 (NT.lst hs) s, SqT.bt h5 (NT.lst hs) s⟩
  obtain ⟨l, e2⟩ := hs
  rw [e, e2] at h2
  cases h2
end
section
variable {P : Program} {w : World} {K : PySem.W.Frag} {mg : Str → Option Value} {base : Heap}
variable {t_LETTERS t_LONGEST_NAME : Tok} {a_DEEDS a_RESERVED a_BadName a_BadPlan a_ElseputError a_Plan a_UnknownName : Addr}
/-! ### looked_at -/
def sp_looked_at (K : PySem.W.Frag) : Sp := fun vs H Q _ => ∃ (t : Addr) (ps : List Stp), vs = [.ref t] ∧ StT K H t ps ∧ ps.length < 64 ∧ ∀ H' r, Same H H' → H r = none → H' r = some (.tup ((looked ps).map V.str)) → Q (.ref r) H'
theorem len_looked_at {vs : List V} {H : Hp} {Q : VK} {E : XK} (h : sp_looked_at K vs H Q E) : vs.length = 1 := by
  obtain ⟨_, _, rfl, _⟩ := h
  rfl
theorem ok_looked_at {f : Addr} {fd : FuncData} (F : Fun K "looked_at" "looked_at" s_looked_at f fd) (T : Gs K mg t_LETTERS t_LONGEST_NAME a_DEEDS a_RESERVED a_BadName a_BadPlan a_ElseputError a_Plan a_UnknownName) : FnOk P w K mg base CX0 1 f fd ["steps"] (sp_looked_at K) := by
  refine F.ok sc_looked_at (fun vs H Q E h => len_looked_at h) (fun cdv A outer s H vs Q E hr h => ?_)
  obtain ⟨t, ps, rfl, ⟨vs, ht, hp⟩, few, q⟩ := h
  refine ⟨_, (pss_one (ps_ret (pe_callTy (tupleK K) (by rfl) T.z_tuple (by decide +kernel) (pa_cons (pe_lc (own := [("deed", 1), ("key", 2)]) (g := gTup K 2 (gCons (gName 1) (gCons (gName 2) gNil))) (by rfl) sc_looked_at.nd (pi_tup (v_ 0)) (blkOk_by (N := ["steps", "deed", "key"]) (sc := defScope s_looked_at) (by decide +kernel)) (fun _ _ _ _ _ => pg_tupK K (by rfl) (pgs_cons (pg_name (i := 1) sc_looked_at.nd rfl (Or.inl rfl)) (pgs_cons (pg_name (i := 2) sc_looked_at.nd rfl (Or.inl rfl)) pgs_nil))) (fun _ _ _ _ _ => pts_one (pt_c (eqK K hr.units) (v_ 1) pe_str)) (fun _ _ _ _ _ => (v_ 2))) pa_nil)))), ?_⟩
  have vl := pairs_len hp
  refine ⟨t, rfl, ⟨_, ht⟩, fun D nD => ?_⟩
  refine lc_it (walk_tup (xs := vs)) (PvP H D (keepF ps (fun p => decide (p.1 = ("look" : Str))) fun p => .str p.2)) (pvp_start nD rfl) (fun _ _ _ h => SqT.same ht h.1) ?_ ?_
  · rintro i v H1 H2 hi pv ⟨rfl, hv⟩
    obtain ⟨⟨d, k⟩, e, r, rfl, hr⟩ := pairs_at (pairs_same hp pv.1) hv
    refine ⟨r, _, rfl, hr, rfl, _, _, rfl, _, _, rfl, rfl, rfl, ?_⟩
    refine ite2 (fun c => ?_) (fun c => ?_)
    · exact pvp_put nD pv (Same.refl _) (keepF_put e c) (Nat.lt_of_le_of_lt keepF_len (by omega))
    · exact pvp_skip pv (Same.refl _) (keepF_skip e c)
  · rintro H1 ⟨sm, hD⟩
    rw [keepF_all vl] at hD
    refine ⟨D, _, rfl, .inl ⟨SqL.of hD, fun r nr => ?_⟩⟩
    refine q _ r (sm.trans (same_new nr)) (Same.free sm nr) ?_
    rw [upd_same]
    unfold looked
    rw [List.map_map]
    rfl
/-! ### step_fits, steps_fit, keys_fit -/
theorem inV_deeds {d : Str} : inV (.str d) [.str "take", .str "look", .str "free"] = decide (d ∈ deeds) := inV_str (xs := deeds)
theorem mem_pair {K : PySem.W.Frag} {H : Hp} {r : Addr} {a b : Str} {o : HO} (h : H r = some o) (e : o = .tup [.str a, .str b]) : PairAt K H (.ref r) (a, b) := ⟨r, rfl, SqT.of (by rw [h, e])⟩
def sp_step_fits (K : PySem.W.Frag) : Sp := fun vs H Q _ => ∃ (t : Addr) (ps : List Stp) (i : Nat) (p : Stp), vs = [.ref t, .int (i : Int)] ∧ StT K H t ps ∧ ps.length < 64 ∧ ps[i]? = some p ∧ ∀ H', Same H H' → Q (.bl (stepFits ps i p)) H'
theorem len_step_fits {vs : List V} {H : Hp} {Q : VK} {E : XK} (h : sp_step_fits K vs H Q E) : vs.length = 2 := by
  obtain ⟨_, _, _, _, rfl, _⟩ := h
  rfl
theorem ok_step_fits {f : Addr} {fd : FuncData} (F : Fun K "step_fits" "step_fits" s_step_fits f fd) (T : Gs K mg t_LETTERS t_LONGEST_NAME a_DEEDS a_RESERVED a_BadName a_BadPlan a_ElseputError a_Plan a_UnknownName) : FnOk P w K mg base CX0 1 f fd ["steps", "at"] (sp_step_fits K) := by
  refine F.ok sc_step_fits (fun vs H Q E h => len_step_fits h) (fun cdv A outer s H vs Q E hr h => ?_)
  obtain ⟨t, ps, i, ⟨d, k⟩, rfl, ⟨vs, ht, hp⟩, few, ei, q⟩ := h
  refine ⟨_, (pss_cons (ps_asg (e_x K (v_ 0) (v_ 1)) (pg_tup (by rfl) (pgs_cons (pg_name (i := 2) sc_step_fits.nd rfl (.inl rfl)) (pgs_cons (pg_name (i := 3) sc_step_fits.nd rfl (.inl rfl)) pgs_nil)))) (pss_cons (ps_if (PW.pt (pw_and (pt_c (eqK K hr.units) (v_ 2) pe_str) (pw_and1 (pt_c (notInP K hr.units) (pe_tup (pa_cons pe_str (pa_cons (v_ 3) pa_nil))) (pe_slice (slK K) (v_ 0) po_none (po_some (v_ 1))))))) (pss_one (ps_ret pe_bl)) pss_nil) (pss_one (ps_ret (pe_andM (pe_c (inK K) (v_ 2) (pe_glob (v := .ref a_DEEDS) rfl T.g_DEEDS rfl)) (pe_one (pe_c (inP K hr.units) (pe_tup (pa_cons pe_str (pa_cons (v_ 3) pa_nil))) (v_ 0)))))))), ?_⟩
  obtain ⟨v, ev, r, rfl, hr⟩ := pairs_to hp ei
  have il := (List.getElem?_eq_some_iff.mp ei).1
  have vl := pairs_len hp
  refine ⟨vs, .inr ht, _, atI_nat ev, r, _, rfl, hr, rfl, _, _, rfl, _, _, rfl, rfl, ?_⟩
  have out : d = "free" → tk k ∉ ps.take i → stepFits ps i (d, k) = false := fun a b => if_pos ⟨a, b⟩
  have into : ¬ (d = "free" ∧ tk k ∉ ps.take i) → stepFits ps i (d, k) = (decide (d ∈ deeds) && decide (lo k ∈ ps)) := fun h => if_neg h
  refine ite2 (fun c => ?_) (fun c => ?_)
  · have c : d = "free" := of_decide_eq_true c
    refine ⟨(by show 2 ≤ sizeLine; decide), fun p np => ?_⟩
    have s1 := same_new (o := .tup [.str "take", .str k]) np
    have whole : ¬ (HT.sIx vs.length 0 none = 0 ∧ HT.sIx vs.length vs.length (some (i : Int)) = vs.length) := by
      rw [HT.sIx_nat]
      omega
    refine ⟨(i : Int), rfl, .inr ⟨t, vs, rfl, SqT.same ht s1, whole, fun u nu => ?_⟩⟩
    rw [cutV_take _ (by omega), show ((i : Int)).toNat = i from rfl]
    have HS := s1.trans (same_new (o := .tup (vs.take i)) nu)
    refine ⟨tk k, u, vs.take i, ps.take i, pair_same pair_new (same_new nu), rfl, .inl (SqT.of upd_same), pairs_take (pairs_same hp HS) i, ?_⟩
    refine ite2 (fun c2 => ?_) (fun c2 => ?_)
    · have z := q _ HS
      rw [out c (of_decide_eq_true c2)] at z
      exact z
    · have fit := into fun h => c2 (decide_eq_true h.2)
      refine ⟨_, .inr (T.q_DEEDS _), rfl, rfl, ?_⟩
      have eb : inV (.str d) [.str "take", .str "look", .str "free"] = decide (d ∈ deeds) := inV_deeds
      refine ite2 (fun c1 => ?_) (fun c1 => ?_)
      · refine ⟨(by show 2 ≤ sizeLine; decide), fun u nu => ?_⟩
        have s2 := HS.trans (same_new (o := .tup [.str "look", .str k]) nu)
        refine ⟨lo k, t, vs, ps, pair_new, rfl, .inl (SqT.same ht s2), pairs_same hp s2, ?_⟩
        have z := q _ s2
        rw [fit, show decide (d ∈ deeds) = true from eb.symm.trans c1, Bool.true_and] at z
        exact z
      · have z := q _ HS
        have n : decide (d ∈ deeds) = false := eb.symm.trans (Bool.eq_false_iff.mpr c1)
        rw [fit, n, Bool.false_and] at z
        exact z
  · have c : d ≠ "free" := fun h => c (decide_eq_true h)
    · have fit := into fun h => c h.1
      have HS := Same.refl H
      refine ⟨_, .inr (T.q_DEEDS _), rfl, rfl, ?_⟩
      have eb : inV (.str d) [.str "take", .str "look", .str "free"] = decide (d ∈ deeds) := inV_deeds
      refine ite2 (fun c1 => ?_) (fun c1 => ?_)
      · refine ⟨(by show 2 ≤ sizeLine; decide), fun u nu => ?_⟩
        have s2 := HS.trans (same_new (o := .tup [.str "look", .str k]) nu)
        refine ⟨lo k, t, vs, ps, pair_new, rfl, .inl (SqT.same ht s2), pairs_same hp s2, ?_⟩
        have z := q _ s2
        rw [fit, show decide (d ∈ deeds) = true from eb.symm.trans c1, Bool.true_and] at z
        exact z
      · have z := q _ HS
        have n : decide (d ∈ deeds) = false := eb.symm.trans (Bool.eq_false_iff.mpr c1)
        rw [fit, n, Bool.false_and] at z
        exact z
def sp_steps_fit (K : PySem.W.Frag) : Sp := fun vs H Q _ => ∃ (t : Addr) (ps : List Stp), vs = [.ref t] ∧ StT K H t ps ∧ ps.length < 64 ∧ ∀ H', Same H H' → Q (.bl (stepsFit ps)) H'
theorem len_steps_fit {vs : List V} {H : Hp} {Q : VK} {E : XK} (h : sp_steps_fit K vs H Q E) : vs.length = 1 := by
  obtain ⟨_, _, rfl, _⟩ := h
  rfl
def fitAt (ps : List Stp) (i : Nat) : Bool := match ps[i]? with
  | some p => stepFits ps i p
  | none => false
theorem ok_steps_fit {f : Addr} {fd : FuncData} {f_step_fits : Addr} {fd_step_fits : FuncData} (F : Fun K "steps_fit" "steps_fit" s_steps_fit f fd) (T : Gs K mg t_LETTERS t_LONGEST_NAME a_DEEDS a_RESERVED a_BadName a_BadPlan a_ElseputError a_Plan a_UnknownName) (c_step_fits : Cal P w K mg base CX0 1 "step_fits" f_step_fits fd_step_fits ["steps", "at"] (sp_step_fits K)) : FnOk P w K mg base CX0 2 f fd ["steps"] (sp_steps_fit K) := by
  refine F.ok sc_steps_fit (fun vs H Q E h => len_steps_fit h) (fun cdv A outer s H vs Q E hr h => ?_)
  obtain ⟨t, ps, rfl, ⟨vs, ht, hp⟩, few, q⟩ := h
  refine ⟨_, (pss_cons (ps_if (PW.pt (pw_or (pt_c (eqK K hr.units) (pe_callB (lenK K) (by rfl) T.z_len PySem.boot_len (pa_cons (v_ 0) pa_nil)) pe_int) (pw_or1 (pt_c op_ltM (pe_lenSetP K (by rfl) T.z_len (by rfl) T.z_set hr.units (v_ 0)) (pe_callB (lenK K) (by rfl) T.z_len PySem.boot_len (pa_cons (v_ 0) pa_nil)))))) (pss_one (ps_ret pe_bl)) pss_nil) (pss_one (ps_ret (pe_callB (allK K rfl) (by rfl) T.z_all (by decide +kernel) (pa_cons (pe_lc (own := [("at", 1)]) (g := gName 1) (by rfl) sc_steps_fit.nd (pi_range1 rfl T.z_range (pa_cons (pe_callB (lenK K) (by rfl) T.z_len PySem.boot_len (pa_cons (v_ 0) pa_nil)) pa_nil)) (blkOk_by (N := ["steps", "at"]) (sc := defScope s_steps_fit) (by decide +kernel)) (fun _ _ _ _ _ => pg_name (i := 1) sc_steps_fit.nd rfl (Or.inl rfl)) (fun _ _ _ _ _ => pts_nil) (fun _ _ _ _ _ => (pe_call c_step_fits.G (hr.mono (by first | decide | omega)) rfl c_step_fits.m c_step_fits.kp c_step_fits.b .nil pass0 (pa_cons (v_ 0) (pa_cons (v_ 1) pa_nil))))) pa_nil))))), ?_⟩
  have vl := pairs_len hp
  have no : (ps = [] ∨ ¬ ps.Nodup) → stepsFit ps = false := fun h => by
    unfold stepsFit
    rcases h with h | h
    · rw [h]; rfl
    · rw [decide_eq_false h, Bool.and_false, Bool.false_and]
  refine .inl ⟨_, .inr ht, ?_⟩
  refine ite2 (fun c => ?_) (fun c => ?_)
  · have c : (vs.length : Int) = 0 := of_decide_eq_true c
    have z := q H (Same.refl H)
    rw [no (.inl (List.eq_nil_of_length_eq_zero (by omega)))] at z
    exact z
  have ne : ps ≠ [] := fun h => c (decide_eq_true (by rw [vl, h]; rfl))
  refine ⟨t, vs, ps, rfl, ht, hp, few, fun n n1 n2 => ?_⟩
  refine .inl ⟨_, .inr ht, ?_⟩
  refine ite2 (fun c1 => ?_) (fun c1 => ?_)
  · have c1 : (n : Int) < vs.length := of_decide_eq_true c1
    have z := q H (Same.refl H)
    rw [no (.inr fun h => by have := n2.mpr h; omega)] at z
    exact z
  have nd : ps.Nodup := n2.mp (by have c1 : ¬ (n : Int) < vs.length := of_decide_eq_false (Bool.eq_false_iff.mpr c1); omega)
  have yes : stepsFit ps = (List.range ps.length).all (fitAt ps) := by
    unfold stepsFit
    rw [decide_eq_true ne, decide_eq_true nd]
    rfl
  refine .inl ⟨_, .inr ht, vs.length, rfl, by omega, by omega, fun D nD => ?_⟩
  refine lc_it (walk_range (lo := 0) (n := vs.length)) (PvP H D (mapF (List.range ps.length) fun i => .bl (fitAt ps i))) (pvp_start nD rfl) (fun _ _ _ _ => trivial) ?_ ?_
  · rintro i v H1 H2 hi pv ⟨rfl, hv⟩
    cases hv
    have il : i < ps.length := by omega
    obtain ⟨p, ep⟩ : ∃ p, ps[i]? = some p := ⟨_, List.getElem?_eq_getElem il⟩
    refine ⟨rfl, t, ps, i, p, ?_, (show StT K H t ps from ⟨vs, ht, hp⟩).same pv.1, few, ep, fun H3 s3 => ?_⟩
    · show [V.ref t, V.int (0 + (i : Int))] = _
      rw [Int.zero_add]
    refine pvp_put nD pv s3 ?_ (Nat.lt_of_le_of_lt mapF_len (by rw [List.length_range]; omega))
    rw [mapF_put (x := i) (by rw [List.getElem?_range il])]
    unfold fitAt
    rw [ep]
  · rintro H1 ⟨sm, hD⟩
    rw [mapF_all (by rw [List.length_range]; exact vl)] at hD
    refine ⟨D, (List.range ps.length).map (fitAt ps), rfl, SqL.of (by rw [hD, List.map_map]; rfl), ?_⟩
    have z := q _ sm
    rw [yes] at z
    rw [List.all_map]
    exact z
def sp_keys_fit (K : PySem.W.Frag) : Sp := fun vs H Q _ => ∃ (t l : Addr) (ps : List Stp) (zs : List Str), vs = [.ref t, .ref l] ∧ StT K H t ps ∧ TxS K H l zs ∧ ps.length < 64 ∧ zs.length < 64 ∧ ∀ H', Same H H' → Q (.bl (keysFit ps zs)) H'
theorem len_keys_fit {vs : List V} {H : Hp} {Q : VK} {E : XK} (h : sp_keys_fit K vs H Q E) : vs.length = 2 := by
  obtain ⟨_, _, _, _, rfl, _⟩ := h
  rfl
theorem ok_keys_fit {f : Addr} {fd : FuncData} (F : Fun K "keys_fit" "keys_fit" s_keys_fit f fd) (T : Gs K mg t_LETTERS t_LONGEST_NAME a_DEEDS a_RESERVED a_BadName a_BadPlan a_ElseputError a_Plan a_UnknownName) : FnOk P w K mg base CX0 1 f fd ["steps", "names"] (sp_keys_fit K) := by
  refine F.ok sc_keys_fit (fun vs H Q E h => len_keys_fit h) (fun cdv A outer s H vs Q E hr h => ?_)
  obtain ⟨t, l, ps, zs, rfl, ht, hl, few, fewz, q⟩ := h
  refine ⟨_, (pss_cons (ps_if (pt_c op_ltM (pe_lenSetS K (by rfl) T.z_len (by rfl) T.z_set (v_ 1)) (pe_callB (lenK K) (by rfl) T.z_len PySem.boot_len (pa_cons (v_ 1) pa_nil))) (pss_one (ps_ret pe_bl)) pss_nil) (pss_one (ps_ret (pe_callB (allK K rfl) (by rfl) T.z_all (by decide +kernel) (pa_cons (pe_lc (own := [("name", 2)]) (g := gName 2) (by rfl) sc_keys_fit.nd (pi_seqK K (v_ 1)) (blkOk_by (N := ["steps", "names", "name"]) (sc := defScope s_keys_fit) (by decide +kernel)) (fun _ _ _ _ _ => pg_name (i := 2) sc_keys_fit.nd rfl (Or.inl rfl)) (fun _ _ _ _ _ => pts_nil) (fun _ _ _ _ _ => (pe_c (inP K hr.units) (pe_tup (pa_cons pe_str (pa_cons (v_ 2) pa_nil))) (v_ 0)))) pa_nil))))), ?_⟩
  refine ⟨l, zs, rfl, hl, fewz, fun n n1 n2 => ?_⟩
  refine .inl ⟨_, hl.symm, ?_⟩
  rw [List.length_map]
  refine ite2 (fun c => ?_) (fun c => ?_)
  · have c : (n : Int) < zs.length := of_decide_eq_true c
    have z := q H (Same.refl H)
    unfold keysFit at z
    rw [decide_eq_false fun h => by have := n2.mpr h; omega] at z
    exact z
  have nd : zs.Nodup := n2.mp (by have c : ¬ (n : Int) < zs.length := of_decide_eq_false (Bool.eq_false_iff.mpr c); omega)
  have turn : ∀ (D : Addr) (nD : H D = none) (i : Nat) (z : Str) (H1 : Hp) (_ : zs[i]? = some z) (_ : PvP H D (mapF zs fun z => .bl (decide (lo z ∈ ps))) i H1), (2 ≤ sizeLine ∧ ∀ u, H1 u = none → ∃ (p : Stp) (l : Addr) (vs : List V) (ps' : List Stp), PairAt K (upd H1 u (.tup [.str "look", .str z])) (.ref u) p ∧ (V.ref t : V) = .ref l ∧ (SqT K (upd H1 u (.tup [.str "look", .str z])) l vs ∨ SqL K (upd H1 u (.tup [.str "look", .str z])) l vs) ∧ PairsIn K (upd H1 u (.tup [.str "look", .str z])) vs ps' ∧
      ∃ acc, (upd H1 u (.tup [.str "look", .str z])) D = some (.lst acc) ∧ acc.length < sizeLine ∧ PvP H D (mapF zs fun z => .bl (decide (lo z ∈ ps))) (i + 1) (upd (upd H1 u (.tup [.str "look", .str z])) D (.lst (acc ++ [.bl (decide (p ∈ ps'))])))) := fun D nD i z H1 e pv => by
    refine ⟨by decide, fun u nu => ?_⟩
    have s2 := same_new (o := .tup [.str "look", .str z]) nu
    obtain ⟨vs, ht1, hp1⟩ := ht.same (pv.1.trans s2)
    exact ⟨lo z, t, vs, ps, pair_new, rfl, .inl ht1, hp1, pvp_put nD pv s2 (mapF_put e) (Nat.lt_of_le_of_lt mapF_len (by omega))⟩
  have done : ∀ (D : Addr) (H1 : Hp), PvP H D (mapF zs fun z => .bl (decide (lo z ∈ ps))) zs.length H1 → ∃ a bs, ([V.ref D] : List V) = [.ref a] ∧ SqL K H1 a (List.map V.bl bs) ∧ Q (.bl (bs.all id)) H1 := fun D H1 ⟨sm, hD⟩ => by
    rw [mapF_all rfl] at hD
    have z := q _ sm
    unfold keysFit at z
    rw [decide_eq_true nd, Bool.true_and] at z
    refine ⟨D, zs.map fun z => decide (lo z ∈ ps), rfl, SqL.of (by rw [hD, List.map_map]; rfl), ?_⟩
    rw [List.all_map]
    exact z
  have at_ : ∀ {i : Nat} {v : V}, (zs.map V.str)[i]? = some v → ∃ z, zs[i]? = some z ∧ v = .str z := fun e => by
    rw [List.getElem?_map] at e
    obtain ⟨z, e2, e3⟩ := Option.map_eq_some_iff.mp e
    exact ⟨z, e2, e3.symm⟩
  rcases hl with hl | hl
  · refine ⟨l, _, rfl, .inr ⟨hl, fun D nD => ?_⟩⟩
    refine lc_it (walk_tup (xs := zs.map V.str)) (PvP H D (mapF zs fun z => .bl (decide (lo z ∈ ps)))) (pvp_start nD rfl) (fun _ _ _ h => SqT.same hl h.1) ?_ ?_
    · rintro i v H1 H2 hi pv ⟨rfl, hv⟩
      obtain ⟨z, e, rfl⟩ := at_ hv
      exact ⟨rfl, turn D nD i z _ e pv⟩
    · intro H1 pv
      rw [List.length_map] at pv
      exact done D H1 pv
  · refine ⟨l, _, rfl, .inl ⟨hl, fun D nD => ?_⟩⟩
    refine lc_it (walk_list (xs := zs.map V.str)) (PvP H D (mapF zs fun z => .bl (decide (lo z ∈ ps)))) (pvp_start nD rfl) (fun _ _ _ h => h.1.seq hl) ?_ ?_
    · rintro i v H1 H2 hi pv ⟨rfl, hv⟩
      obtain ⟨z, e, rfl⟩ := at_ hv
      exact ⟨rfl, turn D nD i z _ e pv⟩
    · intro H1 pv
      rw [List.length_map] at pv
      exact done D H1 pv
/-! ### Plan.__init__ -/
def planNames (ps : List Stp) (lk kp : List Str) : List Str := ps.map (·.2) ++ lk ++ kp
def bad1 (zs : List Str) : Option Str := zs.find? fun z => !isName z
def planFits (ps : List Stp) (lk kp : List Str) : Bool := stepsFit ps && keysFit ps lk && keysFit ps kp
def among (ps : List Stp) (zs : List Str) : List Str := (looked ps).filter fun z => decide (z ∈ zs)
def PlanOut (K : PySem.W.Frag) (H : Hp) (x C dx : Addr) (ps : List Stp) (lk kp : List Str) (Q : VK) (E : XK) : Prop := match bad1 (planNames ps lk kp) with
  | some z => ∀ (B d : Addr) (H' : Hp), PySem.W.nsIn K mainGlobals "BadName" = some (some (.ref B)) → Bt x H H' → H d = none → H' d = some (.xd [("name", .str z)]) → E (.ref B) (some d) H'
  | none => if planFits ps lk kp = true then ∀ (H' : Hp), Bt x H H' → PlAt K H' x ps (among ps lk) (among ps kp) → (∃ fs, H' x = some (.ins C dx fs)) → Q .non H'
    else ∀ (B : Addr) (H' : Hp), PySem.W.nsIn K mainGlobals "BadPlan" = some (some (.ref B)) → Bt x H H' → E (.ref B) none H'
/-- a row of steps in a list -/
def StL (K : PySem.W.Frag) (H : Hp) (t : Addr) (ps : List Stp) : Prop := ∃ vs, SqL K H t vs ∧ PairsIn K H vs ps
theorem sqL_ins {K : PySem.W.Frag} {H H' : Hp} {a x C dx : Addr} {xs : List V} {fs : List (Str × V)} (h : SqL K H a xs) (hx : H x = some (.ins C dx fs)) (s : Bt x H H') : SqL K H' a xs := by
  rcases h with (h | ⟨o, h⟩) | h
  · exact .inl (.inl (s _ _ (fun e => by rw [e, hx] at h; cases h) h))
  · exact .inl (.inr ⟨o, s _ _ (fun e => by rw [e, hx] at h; cases h) h⟩)
  · exact .inr h
theorem txS_bt {K : PySem.W.Frag} {H H' : Hp} {a x C dx : Addr} {zs : List Str} {fs : List (Str × V)} (h : TxS K H a zs) (hx : H x = some (.ins C dx fs)) (s : Bt x H H') : TxS K H' a zs := h.imp (fun h => SqT.bt h (NT.ins hx) s) (fun h => sqL_ins h hx s)
theorem looked_len {ps : List Stp} : (looked ps).length ≤ ps.length := by
  unfold looked
  rw [List.length_map]
  exact List.length_filter_le _ _
def sp_Plan___init__ (K : PySem.W.Frag) : Sp := fun vs H Q E => ∃ (x t l k C dx : Addr) (ps : List Stp) (lk kp : List Str), vs = [.ref x, .ref t, .ref l, .ref k] ∧ PySem.W.nsIn K mainGlobals "Plan" = some (some (.ref C)) ∧ H x = some (.ins C dx []) ∧ StL K H t ps ∧ TxS K H l lk ∧ TxS K H k kp ∧
  ps.length < 64 ∧ lk.length < 64 ∧ kp.length < 64 ∧ (∀ z ∈ planNames ps lk kp, z.length ≤ 1000 ∧ Asc z) ∧ PlanOut K H x C dx ps lk kp Q E
theorem len_Plan___init__ {vs : List V} {H : Hp} {Q : VK} {E : XK} (h : sp_Plan___init__ K vs H Q E) : vs.length = 4 := by
  obtain ⟨_, _, _, _, _, _, _, _, _, rfl, _⟩ := h
  rfl
theorem bad_none {zs : List Str} (h : ∀ z ∈ zs, isName z = true) : bad1 zs = none := by
  unfold bad1
  rw [List.find?_eq_none]
  intro z hz
  rw [h z hz]
  decide
theorem bad_at {zs : List Str} {i : Nat} {z : Str} (h : ∀ y ∈ zs.take i, isName y = true) (e : zs[i]? = some z) (hz : ¬ isName z = true) : bad1 zs = some z := by
  have e1 : zs = zs.take i ++ zs.drop i := (List.take_append_drop i zs).symm
  obtain ⟨hi, e2⟩ := List.getElem?_eq_some_iff.mp e
  have e3 : zs.drop i = z :: zs.drop (i + 1) := by rw [List.drop_eq_getElem_cons hi, e2]
  unfold bad1
  rw [e1, List.find?_append, e3]
  have n := bad_none h
  unfold bad1 at n
  rw [n, List.find?_cons_of_pos (by rw [Bool.eq_false_iff.mpr hz]; rfl)]
  rfl
theorem ok_Plan___init__ {f : Addr} {fd : FuncData} {kws : List (Str × V)} {f_check_name : Addr} {fd_check_name : FuncData} {f_steps_fit : Addr} {fd_steps_fit : FuncData} {f_keys_fit : Addr} {fd_keys_fit : FuncData} {f_looked_at : Addr} {fd_looked_at : FuncData} {f_BadPlan : Addr} {fd_BadPlan : FuncData} (F : FunD K "__init__" "Plan.__init__" (defArgs s_Plan___init__) (defBody s_Plan___init__) (defScope s_Plan___init__) [] kws f fd) (T : Gs K mg t_LETTERS t_LONGEST_NAME a_DEEDS a_RESERVED a_BadName a_BadPlan a_ElseputError a_Plan a_UnknownName) (c_check_name : Cal P w K mg base (L2.CX P w) 3 "check_name" f_check_name fd_check_name ["text"] (sp_check_name K)) (c_steps_fit : Cal P w K mg base CX0 2 "steps_fit" f_steps_fit fd_steps_fit ["steps"] (sp_steps_fit K)) (c_keys_fit : Cal P w K mg base CX0 1 "keys_fit" f_keys_fit fd_keys_fit ["steps", "names"] (sp_keys_fit K)) (c_looked_at : Cal P w K mg base CX0 1 "looked_at" f_looked_at fd_looked_at ["steps"] (sp_looked_at K)) (c_BadPlan : CalE0 P w K mg base 1 "BadPlan" a_BadPlan f_BadPlan fd_BadPlan ["self"]) : FnOk P w K mg base (L2.CX P w) 4 f fd ["self", "steps", "locked", "kept"] (sp_Plan___init__ K) := by
  refine F.ok (CX := (L2.CX P w)) sc_Plan___init__ (fun vs H Q E h => len_Plan___init__ h) (fun cdv A outer s H vs Q E hr h => ?_)
  obtain ⟨x, t, l, k, C, dx, ps, lk, kp, rfl, hC, hx, ⟨vs, ht, hp⟩, hl, hk, few, fl, fk, hz, q⟩ := h
  cases hC.symm.trans T.n_Plan
  refine ⟨_, (pss_cons (ps_fld (v_ 0) (pe_callTy (tupleK K) (by rfl) T.z_tuple (by decide +kernel) (pa_cons (pe_lc (own := [("deed", 5), ("key", 4)]) (g := gTup K 2 (gCons (gName 5) (gCons (gName 4) gNil))) (by rfl) sc_Plan___init__.nd (pi_list (v_ 1)) (blkOk_by (N := ["self", "steps", "locked", "kept", "key", "deed", "_"]) (sc := defScope s_Plan___init__) (by decide +kernel)) (fun _ _ _ _ _ => pg_tupK K (by rfl) (pgs_cons (pg_name (i := 5) sc_Plan___init__.nd rfl (Or.inl rfl)) (pgs_cons (pg_name (i := 4) sc_Plan___init__.nd rfl (Or.inl rfl)) pgs_nil))) (fun _ _ _ _ _ => pts_nil) (fun _ _ _ _ _ => (pe_tup (pa_cons (v_ 5) (pa_cons (v_ 4) pa_nil))))) pa_nil)) (by rfl)) (pss_cons (ps_for (passes_of rfl) rfl (pi_tup (pe_tup (StX.pa_star (pe_lc (own := [("_", 6), ("key", 4)]) (g := gTup K 2 (gCons (gName 6) (gCons (gName 4) gNil))) (by rfl) sc_Plan___init__.nd (pi_tup (e_f K (v_ 0))) (blkOk_by (N := ["self", "steps", "locked", "kept", "key", "deed", "_"]) (sc := defScope s_Plan___init__) (by decide +kernel)) (fun _ _ _ _ _ => pg_tupK K (by rfl) (pgs_cons (pg_name (i := 6) sc_Plan___init__.nd rfl (Or.inl rfl)) (pgs_cons (pg_name (i := 4) sc_Plan___init__.nd rfl (Or.inl rfl)) pgs_nil))) (fun _ _ _ _ _ => pts_nil) (fun _ _ _ _ _ => (v_ 4))) (StX.pa_star (v_ 2) (StX.pa_star (v_ 3) pa_nil))))) (pg_name (i := 4) sc_Plan___init__.nd rfl (.inl rfl)) (pss_one (ps_expr (pe_call c_check_name.G (hr.mono (by first | decide | omega)) rfl c_check_name.m c_check_name.kp c_check_name.b .nil (passes_call (takes_of rfl rfl rfl rfl) (fun _ _ _ _ h => h)) (pa_cons (v_ 4) pa_nil))))) (pss_cons (ps_if (PW.pt (pw_or (pt_not (pt_t K (pe_call c_steps_fit.G (hr.mono (by first | decide | omega)) rfl c_steps_fit.m c_steps_fit.kp c_steps_fit.b .nil pass0 (pa_cons (e_f K (v_ 0)) pa_nil)))) (pw_or (pt_not (pt_t K (pe_call c_keys_fit.G (hr.mono (by first | decide | omega)) rfl c_keys_fit.m c_keys_fit.kp c_keys_fit.b .nil pass0 (pa_cons (e_f K (v_ 0)) (pa_cons (v_ 2) pa_nil))))) (pw_or1 (pt_not (pt_t K (pe_call c_keys_fit.G (hr.mono (by first | decide | omega)) rfl c_keys_fit.m c_keys_fit.kp c_keys_fit.b .nil pass0 (pa_cons (e_f K (v_ 0)) (pa_cons (v_ 3) pa_nil))))))))) (pss_one (ps_raise rfl (takes_of rfl rfl rfl rfl) (pmk_none c_BadPlan.X.oex c_BadPlan.X.iC c_BadPlan.X.tI c_BadPlan.G (hr.mono (by first | decide | omega)) c_BadPlan.b pass0 rfl c_BadPlan.m))) pss_nil) (pss_cons (ps_fld (v_ 0) (pe_callTy (tupleK K) (by rfl) T.z_tuple (by decide +kernel) (pa_cons (pe_lc (own := [("key", 4)]) (g := gName 4) (by rfl) sc_Plan___init__.nd (pi_tup (pe_call c_looked_at.G (hr.mono (by first | decide | omega)) rfl c_looked_at.m c_looked_at.kp c_looked_at.b .nil pass0 (pa_cons (e_f K (v_ 0)) pa_nil))) (blkOk_by (N := ["self", "steps", "locked", "kept", "key", "deed", "_"]) (sc := defScope s_Plan___init__) (by decide +kernel)) (fun _ _ _ _ _ => pg_name (i := 4) sc_Plan___init__.nd rfl (Or.inl rfl)) (fun _ _ _ _ _ => pts_one (pt_c (inK K) (v_ 4) (v_ 2))) (fun _ _ _ _ _ => (v_ 4))) pa_nil)) (by rfl)) (pss_one (ps_fld (v_ 0) (pe_callTy (tupleK K) (by rfl) T.z_tuple (by decide +kernel) (pa_cons (pe_lc (own := [("key", 4)]) (g := gName 4) (by rfl) sc_Plan___init__.nd (pi_tup (pe_call c_looked_at.G (hr.mono (by first | decide | omega)) rfl c_looked_at.m c_looked_at.kp c_looked_at.b .nil pass0 (pa_cons (e_f K (v_ 0)) pa_nil))) (blkOk_by (N := ["self", "steps", "locked", "kept", "key", "deed", "_"]) (sc := defScope s_Plan___init__) (by decide +kernel)) (fun _ _ _ _ _ => pg_name (i := 4) sc_Plan___init__.nd rfl (Or.inl rfl)) (fun _ _ _ _ _ => pts_one (pt_c (inK K) (v_ 4) (v_ 3))) (fun _ _ _ _ _ => (v_ 4))) pa_nil)) (by rfl))))))), ?_⟩
  have vl := pairs_len hp
  refine ⟨t, rfl, ⟨_, ht⟩, fun D nD => ?_⟩
  -- the steps anew
  refine lc_it (walk_list (xs := vs)) (fun i H' => Same H H' ∧ ∃ us, H' D = some (.lst us) ∧ PairsIn K H' us (ps.take i)) ⟨same_new nD, [], upd_same, .nil⟩ (fun _ _ _ h => h.1.seq ht) ?_ ?_
  · rintro i v H1 H2 hi ⟨sm, us, hD, hus⟩ ⟨rfl, hv⟩
    obtain ⟨⟨d, z⟩, e, r, rfl, hr⟩ := pairs_at (pairs_same hp sm) hv
    refine ⟨r, _, rfl, hr, rfl, _, _, rfl, _, _, rfl, rfl, rfl, ?_⟩
    refine ⟨(by show 2 ≤ sizeLine; decide), fun u nu => ?_⟩
    have s2 := same_new (o := .tup [.str d, .str z]) nu
    have ul := pairs_len hus
    rw [List.length_take] at ul
    refine ⟨us, s2 _ _ hD, line_lt (by omega), fun b o hb => by rw [upd_ne (ne_of_none hb nD)]; exact s2 _ _ (sm _ _ hb), us ++ [.ref u], upd_same, ?_⟩
    have uD : u ≠ D := (ne_of_none hD nu).symm
    rw [take_snoc e]
    refine pairs_snoc (pairs_bt (pairs_same hus s2) (NT.lst ⟨_, s2 _ _ hD⟩) Bt.st) ⟨u, rfl, SqT.of ?_⟩
    rw [upd_ne uD, upd_same]
  rintro H1 ⟨s1, us, hD, hus⟩
  rw [vl, List.take_length] at hus
  refine ⟨D, us, rfl, .inl ⟨SqL.of hD, fun w nw => ?_⟩⟩
  have hxw : (upd H1 w (.tup us)) x = some (.ins a_Plan dx []) := by
    rw [upd_ne (ne_of_none (s1 _ _ hx) nw)]
    exact s1 _ _ hx
  refine ⟨x, a_Plan, dx, [], rfl, hxw, T.cl_Plan, T.na_Plan_steps, by decide, ?_⟩
  have b2 : Bt x H (upd (upd H1 w (.tup us)) x (.ins a_Plan dx [("steps", .ref w)])) := (Bt.same (s1.trans (same_new nw))).trans Bt.st
  have hx2 : (upd (upd H1 w (.tup us)) x (.ins a_Plan dx [("steps", .ref w)])) x = some (.ins a_Plan dx [("steps", .ref w)]) := upd_same
  have st2 : StT K (upd (upd H1 w (.tup us)) x (.ins a_Plan dx [("steps", .ref w)])) w ps := by
    have z := same_new (o := .tup us) nw
    exact ⟨us, SqT.bt (SqT.of upd_same) (NT.ins hxw) Bt.st, pairs_bt (pairs_same hus z) (NT.ins hxw) Bt.st⟩
  have hl2 := txS_bt hl hx b2
  have hk2 := txS_bt hk hx b2
  show (fun H2 => _) (upd (upd H1 w (.tup us)) x (.ins a_Plan dx [("steps", .ref w)]))
  generalize upd (upd H1 w (.tup us)) x (.ins a_Plan dx [("steps", .ref w)]) = H2 at b2 hx2 st2 hl2 hk2 ⊢
  clear hxw hD hus nw s1
  -- the names
  obtain ⟨us, hw, hus⟩ := id st2
  have ul := pairs_len hus
  refine ⟨x, a_Plan, dx, _, _, rfl, hx2, T.cl_Plan, T.na_Plan_steps, rfl, w, rfl, ⟨_, hw⟩, fun D nD => ?_⟩
  refine lc_it (walk_tup (xs := us)) (PvP H2 D (mapF ps fun p => .str p.2)) (pvp_start nD rfl) (fun _ _ _ h => SqT.same hw h.1) ?_ ?_
  · rintro i v H3 H4 hi pv ⟨rfl, hv⟩
    obtain ⟨⟨d, z⟩, e, r, rfl, hr⟩ := pairs_at (pairs_same hus pv.1) hv
    refine ⟨r, _, rfl, hr, rfl, _, _, rfl, _, _, rfl, rfl, rfl, ?_⟩
    exact pvp_put nD pv (Same.refl _) (mapF_put e) (Nat.lt_of_le_of_lt mapF_len (by omega))
  rintro H3 ⟨s3, hD⟩
  rw [mapF_all ul] at hD
  refine ⟨D, _, rfl, .inr (SqL.of hD), ?_⟩
  refine ⟨l, _, rfl, TxS.same hl2 s3, ?_⟩
  refine ⟨k, _, rfl, TxS.same hk2 s3, ?_⟩
  have lN : (planNames ps lk kp).length = ps.length + lk.length + kp.length := by
    unfold planNames
    rw [List.length_append, List.length_append, List.length_map]
  have eN : ps.map (fun p => V.str p.2) ++ (lk.map V.str ++ (kp.map V.str ++ [])) = (planNames ps lk kp).map V.str := by
    unfold planNames
    rw [List.map_append, List.map_append, List.map_map, List.append_nil, List.append_assoc]
    rfl
  refine ⟨by rw [eN, List.length_map]; exact line_of (by omega), fun p np => ?_⟩
  have s4 := s3.trans (same_new (o := .tup (ps.map (fun p => V.str p.2) ++ (lk.map V.str ++ (kp.map V.str ++ [])))) np)
  have hp4 : (upd H3 p (.tup (ps.map (fun p => V.str p.2) ++ (lk.map V.str ++ (kp.map V.str ++ []))))) p = some (.tup (ps.map (fun p => V.str p.2) ++ (lk.map V.str ++ (kp.map V.str ++ [])))) := upd_same
  generalize upd H3 p (.tup (ps.map (fun p => V.str p.2) ++ (lk.map V.str ++ (kp.map V.str ++ [])))) = H4 at s4 hp4 ⊢
  rw [eN] at hp4
  refine ⟨p, rfl, ⟨_, SqT.of hp4⟩, ?_⟩
  refine for_tup (K := K) (a := p) (xs := (planNames ps lk kp).map V.str) (fun i σ' H' => (∃ y, σ' = [some (.ref x), some (.ref t), some (.ref l), some (.ref k), y, none, none]) ∧ Same H4 H' ∧ ∀ y ∈ (planNames ps lk kp).take i, isName y = true) ⟨⟨_, rfl⟩, Same.refl _, fun _ h => nomatch h⟩ (fun i σ' H' _ h => SqT.of (h.2.1 _ _ hp4)) ?_ ?_
  · rintro i v σ' H5 hi ⟨⟨y, rfl⟩, sm, hn⟩
    rw [List.getElem?_map] at hi
    obtain ⟨z, ez, rfl⟩ := Option.map_eq_some_iff.mp hi
    obtain ⟨z1, z2⟩ := hz z (List.mem_of_getElem? ez)
    refine ⟨z, rfl, z1, z2, ?_⟩
    by_cases hnz : isName z = true
    · rw [if_pos hnz]
      refine fun H6 s6 => ⟨⟨_, rfl⟩, sm.trans s6, fun y hy => ?_⟩
      rw [take_snoc ez] at hy
      rcases List.mem_append.mp hy with h | h
      · exact hn y h
      · rw [List.mem_singleton.mp h]
        exact hnz
    · rw [if_neg hnz]
      unfold PlanOut at q
      rw [bad_at hn ez hnz] at q
      refine fun B d H6 hB s6 nd hd => q B d H6 hB (b2.trans (Bt.same ((s4.trans sm).trans s6))) ?_ hd
      refine Bt.free (b2.trans (Bt.same (s4.trans sm))) (fun e => ?_) nd
      rw [e, (s4.trans sm) _ _ hx2] at nd
      cases nd
  rintro σ' H5 ⟨⟨y, rfl⟩, sm, hn⟩
  rw [List.length_map, List.take_length] at hn
  have s5 := s4.trans sm
  clear s4 sm s3 hD hp4 np
  unfold PlanOut at q
  rw [bad_none hn] at q
  have raise : ∀ H6, Same H2 H6 → planFits ps lk kp = false → ∀ (B : Addr) (H' : Hp), PySem.W.nsIn K mainGlobals "BadPlan" = some (some (.ref B)) → Same H6 H' → E (.ref B) none H' := fun H6 s6 e B H' hB s7 => by
    rw [e] at q
    exact q B H' hB (b2.trans (Bt.same (s6.trans s7)))
  refine ⟨x, a_Plan, dx, _, _, rfl, s5 _ _ hx2, T.cl_Plan, T.na_Plan_steps, rfl, w, ps, rfl, st2.same s5, few, fun H6 s6 => ?_⟩
  have s6 := s5.trans s6
  refine ite2 (fun c => ?_) (fun c => ?_)
  · have c : stepsFit ps = false := by simpa using c
    exact raise H6 s6 (by unfold planFits; rw [c]; rfl) _ _ T.n_BadPlan (Same.refl _)
  have f1 : stepsFit ps = true := by simpa using c
  refine ⟨x, a_Plan, dx, _, _, rfl, s6 _ _ hx2, T.cl_Plan, T.na_Plan_steps, rfl, w, l, ps, lk, rfl, st2.same s6, TxS.same hl2 s6, few, fl, fun H7 s7 => ?_⟩
  have s7 := s6.trans s7
  refine ite2 (fun c => ?_) (fun c => ?_)
  · have c : keysFit ps lk = false := by simpa using c
    exact raise H7 s7 (by unfold planFits; rw [c, Bool.and_false, Bool.false_and]) _ _ T.n_BadPlan (Same.refl _)
  have f2 : keysFit ps lk = true := by simpa using c
  refine ⟨x, a_Plan, dx, _, _, rfl, s7 _ _ hx2, T.cl_Plan, T.na_Plan_steps, rfl, w, k, ps, kp, rfl, st2.same s7, TxS.same hk2 s7, few, fk, fun H8 s8 => ?_⟩
  have s8 := s7.trans s8
  refine ite2 (fun c => ?_) (fun c => ?_)
  · have c : keysFit ps kp = false := by simpa using c
    exact raise H8 s8 (by unfold planFits; rw [c, Bool.and_false]) _ _ T.n_BadPlan (Same.refl _)
  have f3 : keysFit ps kp = true := by simpa using c
  have good : planFits ps lk kp = true := by
    unfold planFits
    rw [f1, f2, f3]
    rfl
  rw [good] at q
  have q : ∀ (H' : Hp), Bt x H H' → PlAt K H' x ps (among ps lk) (among ps kp) → (∃ fs, H' x = some (.ins a_Plan dx fs)) → Q .non H' := q
  clear raise hn s5 s6 s7
  -- what is locked
  refine ⟨x, a_Plan, dx, _, _, rfl, s8 _ _ hx2, T.cl_Plan, T.na_Plan_steps, rfl, w, ps, rfl, st2.same s8, few, fun H5 r5 s5 nr5 hr5 => ?_⟩
  refine ⟨r5, rfl, ⟨_, SqT.of hr5⟩, fun D5 nD5 => ?_⟩
  refine lc_it (walk_tup (xs := (looked ps).map V.str)) (PvP H5 D5 (keepF (looked ps) (fun z => decide (z ∈ lk)) V.str)) (pvp_start nD5 rfl) (fun _ _ _ h => SqT.of (h.1 _ _ hr5)) ?_ ?_
  · rintro i v H6 H7 hi pv ⟨rfl, hv⟩
    rw [List.getElem?_map] at hv
    obtain ⟨z, e, rfl⟩ := Option.map_eq_some_iff.mp hv
    refine ⟨rfl, ?_⟩
    refine ⟨_, (TxS.same hl2 (s8.trans (s5.trans pv.1))).symm, rfl, flat_strs, ?_⟩
    rw [List.length_map] at hi
    refine ite2 (fun c => ?_) (fun c => ?_)
    · exact pvp_put nD5 pv (Same.refl _) (keepF_put e (inV_str.symm.trans c)) (Nat.lt_of_le_of_lt keepF_len (Nat.lt_of_le_of_lt looked_len (by omega)))
    · exact pvp_skip pv (Same.refl _) (keepF_skip e fun h => c (inV_str.trans h))
  rintro H6 ⟨s6, hD6⟩
  rw [keepF_all (by rw [List.length_map])] at hD6
  refine ⟨D5, _, rfl, .inl ⟨SqL.of hD6, fun w2 nw2 => ?_⟩⟩
  have s7 : Same H2 (upd H6 w2 (.tup (List.map V.str (List.filter (fun z => decide (z ∈ lk)) (looked ps))))) := (s8.trans (s5.trans s6)).trans (same_new nw2)
  have hx7 := s7 _ _ hx2
  refine ⟨x, a_Plan, dx, _, rfl, hx7, T.cl_Plan, T.na_Plan_locked, (by show 1 < 1000; decide), ?_⟩
  have st7 := st2.same s7
  have hk7 := TxS.same hk2 s7
  have hw7 : TxT K (upd H6 w2 (.tup (List.map V.str (List.filter (fun z => decide (z ∈ lk)) (looked ps))))) w2 (among ps lk) := SqT.of upd_same
  generalize upd H6 w2 (.tup (List.map V.str (List.filter (fun z => decide (z ∈ lk)) (looked ps)))) = H7 at s7 hx7 st7 hk7 hw7 ⊢
  have b9 : Bt x H (upd H7 x (.ins a_Plan dx [("steps", .ref w), ("locked", .ref w2)])) := (b2.trans (Bt.same s7)).trans Bt.st
  have hx9 : (upd H7 x (.ins a_Plan dx [("steps", .ref w), ("locked", .ref w2)])) x = some (.ins a_Plan dx [("steps", .ref w), ("locked", .ref w2)]) := upd_same
  have st9 : StT K (upd H7 x (.ins a_Plan dx [("steps", .ref w), ("locked", .ref w2)])) w ps := st7.bt (NT.ins hx7) Bt.st
  have hk9 : TxS K (upd H7 x (.ins a_Plan dx [("steps", .ref w), ("locked", .ref w2)])) k kp := txS_bt hk7 hx7 Bt.st
  have hw9 : TxT K (upd H7 x (.ins a_Plan dx [("steps", .ref w), ("locked", .ref w2)])) w2 (among ps lk) := SqT.bt hw7 (NT.ins hx7) Bt.st
  show (fun H9 => _) (upd H7 x (.ins a_Plan dx [("steps", .ref w), ("locked", .ref w2)]))
  generalize upd H7 x (.ins a_Plan dx [("steps", .ref w), ("locked", .ref w2)]) = H9 at b9 hx9 st9 hk9 hw9 ⊢
  clear st7 hk7 hw7 hx7 s7 s8 nw2 hD6 s6 s5 nD5 hr5 nr5
  -- what is kept
  refine ⟨x, a_Plan, dx, _, _, rfl, hx9, T.cl_Plan, T.na_Plan_steps, rfl, w, ps, rfl, st9, few, fun H5 r5 s5 nr5 hr5 => ?_⟩
  refine ⟨r5, rfl, ⟨_, SqT.of hr5⟩, fun D5 nD5 => ?_⟩
  refine lc_it (walk_tup (xs := (looked ps).map V.str)) (PvP H5 D5 (keepF (looked ps) (fun z => decide (z ∈ kp)) V.str)) (pvp_start nD5 rfl) (fun _ _ _ h => SqT.of (h.1 _ _ hr5)) ?_ ?_
  · rintro i v H6 H7 hi pv ⟨rfl, hv⟩
    rw [List.getElem?_map] at hv
    obtain ⟨z, e, rfl⟩ := Option.map_eq_some_iff.mp hv
    refine ⟨rfl, ?_⟩
    refine ⟨_, (TxS.same hk9 (s5.trans pv.1)).symm, rfl, flat_strs, ?_⟩
    rw [List.length_map] at hi
    refine ite2 (fun c => ?_) (fun c => ?_)
    · exact pvp_put nD5 pv (Same.refl _) (keepF_put e (inV_str.symm.trans c)) (Nat.lt_of_le_of_lt keepF_len (Nat.lt_of_le_of_lt looked_len (by omega)))
    · exact pvp_skip pv (Same.refl _) (keepF_skip e fun h => c (inV_str.trans h))
  rintro H6 ⟨s6, hD6⟩
  rw [keepF_all (by rw [List.length_map])] at hD6
  refine ⟨D5, _, rfl, .inl ⟨SqL.of hD6, fun w3 nw3 => ?_⟩⟩
  have s7 : Same H9 (upd H6 w3 (.tup (List.map V.str (List.filter (fun z => decide (z ∈ kp)) (looked ps))))) := (s5.trans s6).trans (same_new nw3)
  have hx7 := s7 _ _ hx9
  refine ⟨x, a_Plan, dx, _, rfl, hx7, T.cl_Plan, T.na_Plan_kept, (by show 2 < 1000; decide), ?_⟩
  have st7 := st9.same s7
  have hl7 : TxT K (upd H6 w3 (.tup (List.map V.str (List.filter (fun z => decide (z ∈ kp)) (looked ps))))) w2 (among ps lk) := SqT.same hw9 s7
  have hw7 : TxT K (upd H6 w3 (.tup (List.map V.str (List.filter (fun z => decide (z ∈ kp)) (looked ps))))) w3 (among ps kp) := SqT.of upd_same
  generalize upd H6 w3 (.tup (List.map V.str (List.filter (fun z => decide (z ∈ kp)) (looked ps)))) = H7 at s7 hx7 st7 hl7 hw7 ⊢
  exact q _ ((b9.trans (Bt.same s7)).trans Bt.st) ⟨a_Plan, dx, w, w2, w3, T.n_Plan, upd_same, st7.bt (NT.ins hx7) Bt.st, SqT.bt hl7 (NT.ins hx7) Bt.st, SqT.bt hw7 (NT.ins hx7) Bt.st⟩ ⟨_, upd_same⟩
/-- what making a plan at x comes to -/
def PlOut (K : PySem.W.Frag) (H : Hp) (x : Addr) (ps : List Stp) (lk kp : List Str) (Q : VK) (E : XK) : Prop := match bad1 (planNames ps lk kp) with
  | some z => BadN K H z E
  | none => if planFits ps lk kp = true then ∀ (H' : Hp), Same H H' → PlAt K H' x ps (among ps lk) (among ps kp) → Q .non H' else BadP K H E
theorem made_plan {K : PySem.W.Frag} {H : Hp} {C t l k x dx : Addr} {ps : List Stp} {lk kp : List Str} {Q : VK} {E : XK} (nx : H x = none) (nd : H dx = none) (ne : dx ≠ x) (hC : PySem.W.nsIn K mainGlobals "Plan" = some (some (.ref C))) (ht : StL K H t ps) (hl : TxS K H l lk) (hk : TxS K H k kp)
    (few : ps.length < 64) (fl : lk.length < 64) (fk : kp.length < 64) (hz : ∀ z ∈ planNames ps lk kp, z.length ≤ 1000 ∧ Asc z) (q : PlOut K H x ps lk kp Q E) :
    sp_Plan___init__ K [.ref x, .ref t, .ref l, .ref k] (upd (upd H dx (.own x)) x (.ins C dx [])) Q E := by
  have sm : Same H (upd (upd H dx (.own x)) x (.ins C dx [])) := fun b o hb => by
    rw [upd_ne (ne_of_none hb nx), upd_ne (ne_of_none hb nd)]
    exact hb
  have after : ∀ {H' : Hp}, Bt x (upd (upd H dx (.own x)) x (.ins C dx [])) H' → Same H H' := fun {H'} k b o hb => k b o (ne_of_none hb nx) (sm _ _ hb)
  obtain ⟨vs, h1, h2⟩ := ht
  refine ⟨x, t, l, k, C, dx, ps, lk, kp, rfl, hC, upd_same, ⟨vs, sm.seq h1, pairs_same h2 sm⟩, TxS.same hl sm, TxS.same hk sm, few, fl, fk, hz, ?_⟩
  unfold PlOut at q
  unfold PlanOut
  cases hb : bad1 (planNames ps lk kp) with
  | some z =>
    rw [hb] at q
    exact fun B d H' hB k nd' hd => q B d H' hB (after k) (free_new (free_new nd')) hd
  | none =>
    rw [hb] at q
    by_cases g : planFits ps lk kp = true
    · rw [if_pos g] at q
      show if planFits ps lk kp = true then _ else _
      rw [if_pos g]
      exact fun H' k hp _ => q H' (after k) hp
    · rw [if_neg g] at q
      show if planFits ps lk kp = true then _ else _
      rw [if_neg g]
      exact fun B H' hB k => q B H' hB (after k)
end
section
variable {P : Program} {w : World} {K : PySem.W.Frag} {mg : Str → Option Value} {base : Heap}
variable {t_LETTERS t_LONGEST_NAME : Tok} {a_DEEDS a_RESERVED a_BadName a_BadPlan a_ElseputError a_Plan a_UnknownName : Addr}
def sp__law_mixed (K : PySem.W.Frag) : Sp := fun vs H Q _ => ∃ (st scr p : Addr) (xs : List V), vs = [.ref st, .ref p] ∧ DrAt H st scr ∧ H p = some (.lst xs) ∧ p ≠ st ∧ xs.length ≤ 1000 ∧
  ∀ (H' : Hp) (r : Addr) (ys : List V), Bt st H H' → DrAt H' st scr → H r = none → H' r = some (.lst ys) → ys.Perm xs → Q (.ref r) H'
theorem len__law_mixed {vs : List V} {H : Hp} {Q : VK} {E : XK} (h : sp__law_mixed K vs H Q E) : vs.length = 2 := by
  obtain ⟨_, _, _, _, rfl, _⟩ := h
  rfl
theorem ok__law_mixed {f : Addr} {fd : FuncData} {f__law_draw : Addr} {fd__law_draw : FuncData} (F : Fun K "_law_mixed" "_law_mixed" s__law_mixed f fd) (T : Gs K mg t_LETTERS t_LONGEST_NAME a_DEEDS a_RESERVED a_BadName a_BadPlan a_ElseputError a_Plan a_UnknownName) (c__law_draw : Cal P w K mg base CX0 1 "_law_draw" f__law_draw fd__law_draw ["_law_state_here", "_law_many"] (sp__law_draw K)) : FnOk P w K mg base CX0 2 f fd ["_law_state_here", "_law_row"] (sp__law_mixed K) := by
  refine F.ok sc__law_mixed (fun vs H Q E h => len__law_mixed h) (fun cdv A outer s H vs Q E hr h => ?_)
  obtain ⟨st, scr, p, xs, rfl, hd, hp, hne, hl, q⟩ := h
  refine ⟨_, (pss_cons (ps_set (i := 2) sc__law_mixed.nd rfl (.inl rfl) (pe_callTy (listK K) (by rfl) T.z_list (by decide +kernel) (pa_cons (v_ 1) pa_nil))) (pss_cons (ps_set (i := 3) sc__law_mixed.nd rfl (.inl rfl) (pe_lst pa_nil)) (pss_cons (ps_for PassesOwn.never rfl (pi_range1 rfl T.z_range (pa_cons (pe_callB (lenK K) (by rfl) T.z_len PySem.boot_len (pa_cons (v_ 1) pa_nil)) pa_nil)) (pg_name (i := 4) sc__law_mixed.nd rfl (.inl rfl)) (pss_cons (ps_set (i := 5) sc__law_mixed.nd rfl (.inl rfl) (pe_call c__law_draw.G (hr.mono (by first | decide | omega)) rfl c__law_draw.m c__law_draw.kp c__law_draw.b .nil pass0 (pa_cons (v_ 0) (pa_cons (pe_callB (lenK K) (by rfl) T.z_len PySem.boot_len (pa_cons (v_ 2) pa_nil)) pa_nil)))) (pss_cons (ps_expr (pe_bm PySem.F.plainAttrs_list PySem.F.slot_list_append PySem.F.type_list_append mt_append (v_ 3) (pa_cons (e_x K (v_ 2) (v_ 5)) pa_nil))) (pss_one (ps_set (i := 2) sc__law_mixed.nd rfl (.inl rfl) (pe_op (addK K) (pe_slice (slK K) (v_ 2) po_none (po_some (v_ 5))) (pe_slice (slK K) (v_ 2) (po_some (pe_op (addK K) (v_ 5) pe_int)) po_none))))))) (pss_one (ps_ret (v_ 3)))))), ?_⟩
  refine ⟨_, _, rfl, .inl (SqL.of hp), fun t nt => ?_⟩
  refine ⟨Nat.zero_le _, fun r nr => ?_⟩
  have tr := new_ne nr
  have hr0 := free_new nr
  have hd0 := (hd.new (same_new (o := .lst xs) nt)).new (same_new (o := .lst []) nr)
  have ts : t ≠ st := hd.ne_new nt
  have rs : r ≠ st := hd.ne_new hr0
  have rc : r ≠ scr := hd.ne_scr hr0
  refine .inl ⟨_, .inl (SqL.of (by rw [upd_ne (ne_of_none hp hr0), upd_ne (ne_of_none hp nt)]; exact hp)), xs.length, rfl, by omega, by omega, ?_⟩
  refine for_range (lo := 0) (n := xs.length) (fun i σ' H' => ∃ (t : Addr) (rest ys : List V) (y z : Option V), σ' = [some (.ref st), some (.ref p), some (.ref t), some (.ref r), y, z] ∧ Bt st H H' ∧ DrAt H' st scr ∧ t ≠ st ∧ t ≠ r ∧ H' t = some (.lst rest) ∧ H' r = some (.lst ys) ∧ rest.length + i = xs.length ∧ ys.length = i ∧ (rest ++ ys).Perm xs) ?_ ?_ ?_
  · exact ⟨t, xs, [], _, _, rfl, .same ((same_new nt).trans (same_new nr)), hd0, ts, tr.symm, by rw [upd_ne tr.symm, upd_same], upd_same, rfl, rfl, by rw [List.append_nil]⟩
  · rintro i σ' H' hi ⟨t, rest, ys, y, z, rfl, bt, hd, ts, tr, ht, hr, l1, l2, m1⟩
    refine .inl ⟨_, .inl (SqL.of ht), st, scr, _, rfl, hd, by omega, many_small (by omega) (by omega), fun a l a0 a1 hd' => ?_⟩
    have ht1 : upd H' st (.lst l) t = some (.lst rest) := by rw [upd_ne ts]; exact ht
    have hr1 : upd H' st (.lst l) r = some (.lst ys) := by rw [upd_ne rs]; exact hr
    obtain ⟨x, hx, hm⟩ := at_list a0 a1
    refine ⟨.inl ⟨rfl, _, SqL.of hr1⟩, _, .inl (SqL.of ht1), x, hx, r, ys, x, rfl, rfl, hr1, line_lt (by omega), ?_⟩
    have hd2 := hd'.at (o := .lst (ys ++ [x])) rs rc
    have ht2 : upd (upd H' st (.lst l)) r (.lst (ys ++ [x])) t = some (.lst rest) := by rw [upd_ne tr]; exact ht1
    refine ⟨a, rfl, .inl ⟨rest, SqL.of ht2, fun u nu => ?_⟩⟩
    rw [cutV_take _ a0]
    have ht3 := same_new (o := .lst (rest.take a.toNat)) nu _ _ ht2
    refine ⟨a + 1, rfl, .inl ⟨rest, SqL.of ht3, fun v nv => ?_⟩⟩
    rw [cutV_drop _ (by omega)]
    have hu := same_new (o := .lst (rest.drop (a + 1).toNat)) nv _ _ (upd_same (H := upd (upd H' st (.lst l)) r (.lst (ys ++ [x]))) (a := u) (o := .lst (rest.take a.toNat)))
    refine .inl ⟨_, _, hu, upd_same, line_of (by rw [List.length_take, List.length_drop]; omega), fun k nk => ?_⟩
    have sm := ((same_new (o := .lst (rest.take a.toNat)) nu).trans (same_new (o := .lst (rest.drop (a + 1).toNat)) nv)).trans (same_new (o := .lst (rest.take a.toNat ++ rest.drop (a + 1).toNat)) nk)
    have hd3 := hd2.new sm
    have kn := free_new (free_new nk)
    refine ⟨k, _, ys ++ [x], _, _, rfl, ?_, hd3, hd2.ne_new kn, (ne_of_none upd_same kn).symm, upd_same, sm _ _ upd_same, ?_, by rw [List.length_append, l2]; rfl, ?_⟩
    · intro b o nb hb
      refine sm _ _ ?_
      have := bt b o nb hb
      rw [upd_ne (ne_of_none hb hr0), upd_ne nb]
      exact this
    · rw [List.length_append, List.length_take, List.length_drop]
      omega
    · have hx' : rest[a.toNat]? = some x := by
        obtain ⟨x', e1, e2⟩ : ∃ x', rest[a.toNat]? = some x' ∧ atI rest a = some x' := by
          have hlt : a.toNat < rest.length := by omega
          refine ⟨_, List.getElem?_eq_getElem hlt, ?_⟩
          have := atI_nat (List.getElem?_eq_getElem hlt)
          rwa [show ((a.toNat : Nat) : Int) = a by omega] at this
        rw [hx] at e2
        cases e2
        exact e1
      have hr' : rest = rest.take a.toNat ++ x :: rest.drop (a + 1).toNat := by
        obtain ⟨h1, h2⟩ := List.getElem?_eq_some_iff.mp hx'
        rw [show (a + 1).toNat = a.toNat + 1 by omega, ← h2, ← List.drop_eq_getElem_cons h1, List.take_append_drop]
      refine List.Perm.trans ?_ m1
      rw [← List.append_assoc]
      have p1 : (rest.take a.toNat ++ rest.drop (a + 1).toNat ++ ys ++ [x]).Perm (rest.take a.toNat ++ (x :: rest.drop (a + 1).toNat) ++ ys) := by
        refine (List.perm_append_comm (l₁ := rest.take a.toNat ++ rest.drop (a + 1).toNat ++ ys) (l₂ := [x])).trans ?_
        rw [List.append_assoc, List.append_assoc]
        exact (List.perm_middle (a := x) (l₁ := rest.take a.toNat) (l₂ := rest.drop (a + 1).toNat ++ ys)).symm
      rw [← hr'] at p1
      exact p1
  · rintro σ' H' ⟨t, rest, ys, y, z, rfl, bt, hd, ts, tr, ht, hr, l1, l2, m1⟩
    refine q H' r ys bt hd hr0 hr ?_
    have : rest = [] := List.eq_nil_of_length_eq_zero (by omega)
    rw [this] at m1
    exact m1
/-! ### names -/
/-- small letters, of which the one at p is c -/
def Lt (z : Str) (p c : Nat) : Prop := (∀ d ∈ z.cps.toList, d ∈ letters.cps.toList) ∧ z.cps.toList[p]? = some c ∧ z.length ≤ 12
theorem Lt.name {z : Str} {p c : Nat} (h : Lt z p c) (hr : inV (.str z) resv = false) : isName z = true := by
  unfold isName
  have h0 : ¬ ((z.length : Int) < 1) := by
    have := (List.getElem?_eq_some_iff.mp h.2.1).1
    rw [len_cps] at this
    omega
  have h1 : ¬ ((12 : Int) < z.length) := by have := h.2.2; omega
  rw [decide_eq_false h0, decide_eq_false h1, hr]
  show (z.cps.toList.all fun c => decide (c ∈ letters.cps.toList)) = true
  exact List.all_eq_true.mpr fun d hd => decide_eq_true (h.1 d hd)
theorem resv_strs : resv = (["always", "never", "and", "or", "not", "when", "add", "set", "change", "tell", "refuse", "take", "look", "free", "lock", "keep", "keys", "fields"] : List Str).map V.str := rfl
theorem resv_z {z : Str} (h : inV (.str z) resv = true) : inV (.str (z ++ "z")) resv = false ∧ z.length ≤ 7 := by
  rw [resv_strs, inV_str, decide_eq_true_iff] at h
  have all : (["always", "never", "and", "or", "not", "when", "add", "set", "change", "tell", "refuse", "take", "look", "free", "lock", "keep", "keys", "fields"] : List Str).all (fun z => !inV (.str (z ++ "z")) resv && decide (z.length ≤ 7)) = true := by decide +kernel
  have := List.all_eq_true.mp all z h
  rw [Bool.and_eq_true, Bool.not_eq_true', decide_eq_true_iff] at this
  exact this
theorem cutS_take (z : Str) {k : Nat} : (cutS z none (some (k : Int))).cps.toList = z.cps.toList.take k := by
  unfold cutS
  rw [List.toList_toArray, HT.sIx_nat, HT.sIx_none, List.drop_zero, Nat.sub_zero, List.take_eq_take_iff, len_cps]
  omega
theorem cutS_drop (z : Str) {k : Nat} : (cutS z (some (k : Int)) none).cps.toList = z.cps.toList.drop k := by
  unfold cutS
  rw [List.toList_toArray, HT.sIx_nat, HT.sIx_none]
  by_cases h : k ≤ z.length
  · rw [Nat.min_eq_left h, List.take_of_length_le (by rw [List.length_drop, len_cps]; omega)]
  · rw [Nat.min_eq_right (by omega), List.drop_of_length_le (by rw [len_cps]; omega), List.drop_of_length_le (by rw [len_cps]; omega), List.take_nil]
theorem letter_at {i : Int} (h0 : 0 ≤ i) (h1 : i < 26) : atI letters.cps.toList i = some (97 + i.toNat) := by
  have all : ∀ j : Fin 26, letters.cps.toList[j.val]? = some (97 + j.val) := by decide +kernel
  have := all ⟨i.toNat, by omega⟩
  have hq := atI_nat this
  rwa [show ((i.toNat : Nat) : Int) = i by omega] at hq
theorem letter_mem {i : Nat} (h1 : i < 26) : (97 + i) ∈ letters.cps.toList := by
  have all : ∀ j : Fin 26, (97 + j.val) ∈ letters.cps.toList := by decide +kernel
  exact all ⟨i, h1⟩
theorem one_len (c : Nat) : (⟨#[c]⟩ : Str).length = 1 := rfl
theorem one_cps (c : Nat) : (⟨#[c]⟩ : Str).cps.toList = [c] := rfl
theorem Lt.z {z : Str} {p c : Nat} (h : Lt z p c) (hl : z.length ≤ 7) : Lt (z ++ "z") p c := by
  refine ⟨fun d hd => ?_, ?_, ?_⟩
  · rw [cps_add] at hd
    rcases List.mem_append.mp hd with e | e
    · exact h.1 d e
    · have : d = 122 := by simpa using (show d ∈ [122] from e)
      rw [this]
      decide +kernel
  · rw [cps_add, List.getElem?_append_left (List.getElem?_eq_some_iff.mp h.2.1).1]
    exact h.2.1
  · rw [len_add]
    show z.length + 1 ≤ 12
    omega
def sp__law_names (K : PySem.W.Frag) : Sp := fun vs H Q _ => ∃ (st scr : Addr) (n : Nat), vs = [.ref st, .int n] ∧ DrAt H st scr ∧ n ≤ 26 ∧
  ∀ (H' : Hp) (p : Addr) (zs : List Str), Bt st H H' → DrAt H' st scr → H p = none → H' p = some (.lst (zs.map V.str)) → zs.length = n → (∀ z ∈ zs, isName z = true ∧ z.length ≤ 12) → zs.Nodup → Q (.ref p) H'
theorem len__law_names {vs : List V} {H : Hp} {Q : VK} {E : XK} (h : sp__law_names K vs H Q E) : vs.length = 2 := by
  obtain ⟨_, _, _, rfl, _⟩ := h
  rfl
theorem ok__law_names {f : Addr} {fd : FuncData} {f__law_draw : Addr} {fd__law_draw : FuncData} (F : Fun K "_law_names" "_law_names" s__law_names f fd) (T : Gs K mg t_LETTERS t_LONGEST_NAME a_DEEDS a_RESERVED a_BadName a_BadPlan a_ElseputError a_Plan a_UnknownName) (c__law_draw : Cal P w K mg base CX0 1 "_law_draw" f__law_draw fd__law_draw ["_law_state_here", "_law_many"] (sp__law_draw K)) : FnOk P w K mg base CX0 2 f fd ["_law_state_here", "_law_many"] (sp__law_names K) := by
  refine F.ok sc__law_names (fun vs H Q E h => len__law_names h) (fun cdv A outer s H vs Q E hr h => ?_)
  obtain ⟨st, scr, n, rfl, hd, hn, q⟩ := h
  refine ⟨_, (pss_cons (ps_set (i := 2) sc__law_names.nd rfl (.inl rfl) pe_str) (pss_cons (ps_set (i := 3) sc__law_names.nd rfl (.inl rfl) (pe_call c__law_draw.G (hr.mono (by first | decide | omega)) rfl c__law_draw.m c__law_draw.kp c__law_draw.b .nil pass0 (pa_cons (v_ 0) (pa_cons pe_int pa_nil)))) (pss_cons (ps_set (i := 4) sc__law_names.nd rfl (.inl rfl) (pe_call c__law_draw.G (hr.mono (by first | decide | omega)) rfl c__law_draw.m c__law_draw.kp c__law_draw.b .nil pass0 (pa_cons (v_ 0) (pa_cons pe_int pa_nil)))) (pss_cons (ps_set (i := 5) sc__law_names.nd rfl (.inl rfl) (pe_call c__law_draw.G (hr.mono (by first | decide | omega)) rfl c__law_draw.m c__law_draw.kp c__law_draw.b .nil pass0 (pa_cons (v_ 0) (pa_cons pe_int pa_nil)))) (pss_cons (ps_set (i := 6) sc__law_names.nd rfl (.inl rfl) (pe_call c__law_draw.G (hr.mono (by first | decide | omega)) rfl c__law_draw.m c__law_draw.kp c__law_draw.b .nil pass0 (pa_cons (v_ 0) (pa_cons pe_int pa_nil)))) (pss_cons (ps_set (i := 7) sc__law_names.nd rfl (.inl rfl) pe_str) (pss_cons (ps_for PassesOwn.never rfl (pi_range1 rfl T.z_range (pa_cons pe_int pa_nil)) (pg_name (i := 8) sc__law_names.nd rfl (.inl rfl)) (pss_cons (ps_set (i := 7) sc__law_names.nd rfl (.inl rfl) (pe_op (addK K) (v_ 7) (e_x K (v_ 2) (pe_op op_modM (pe_callTy call_intM (by rfl) T.z_int (by decide +kernel) (pa_cons (v_ 5) pa_nil)) pe_int)))) (pss_one (ps_set (i := 5) sc__law_names.nd rfl (.inl rfl) (pe_op op_divM (pe_callTy call_intM (by rfl) T.z_int (by decide +kernel) (pa_cons (v_ 5) pa_nil)) pe_int))))) (pss_cons (ps_set (i := 9) sc__law_names.nd rfl (.inl rfl) (pe_lst (pa_cons pe_str (pa_cons pe_str (pa_cons pe_str (pa_cons pe_str (pa_cons pe_str (pa_cons pe_str (pa_cons pe_str (pa_cons pe_str (pa_cons pe_str (pa_cons pe_str (pa_cons pe_str (pa_cons pe_str pa_nil)))))))))))))) (pss_cons (ps_set (i := 9) sc__law_names.nd rfl (.inl rfl) (pe_op (addK K) (v_ 9) (pe_lst (pa_cons pe_str (pa_cons pe_str (pa_cons pe_str (pa_cons pe_str (pa_cons pe_str (pa_cons pe_str pa_nil))))))))) (pss_cons (ps_set (i := 10) sc__law_names.nd rfl (.inl rfl) (pe_lst pa_nil)) (pss_cons (ps_for PassesOwn.never rfl (pi_range1 rfl T.z_range (pa_cons (v_ 1) pa_nil)) (pg_name (i := 8) sc__law_names.nd rfl (.inl rfl)) (pss_cons (ps_set (i := 11) sc__law_names.nd rfl (.inl rfl) (e_x K (v_ 2) (pe_op op_modM (pe_callTy call_intM (by rfl) T.z_int (by decide +kernel) (pa_cons (pe_op (addK K) (v_ 4) (pe_op op_mulSM pe_int (v_ 8))) pa_nil)) pe_int))) (Evl.pss_cut (ps_if (pt_c (eqK K hr.units) (v_ 3) pe_int) (pss_one (ps_set (i := 11) sc__law_names.nd rfl (.inl rfl) (pe_op (addK K) (pe_op (addK K) (pe_slice (slK K) (v_ 7) po_none (po_some (v_ 6))) (v_ 11)) (pe_slice (slK K) (v_ 7) (po_some (v_ 6)) po_none)))) pss_nil) (Evl.pss_cut (ps_if (pt_c (eqK K hr.units) (v_ 3) pe_int) (pss_one (ps_set (i := 11) sc__law_names.nd rfl (.inl rfl) (pe_op (addK K) (v_ 11) (pe_slice (slK K) (v_ 7) po_none (po_some (pe_op op_modM (pe_callTy call_intM (by rfl) T.z_int (by decide +kernel) (pa_cons (pe_op (addK K) (pe_op op_mulSM pe_int (v_ 8)) (v_ 6)) pa_nil)) pe_int)))))) pss_nil) (Evl.pss_cut (ps_if (pt_c (eqK K hr.units) (v_ 3) pe_int) (pss_one (ps_set (i := 11) sc__law_names.nd rfl (.inl rfl) (pe_op (addK K) (pe_op (addK K) (pe_slice (slK K) (v_ 7) po_none (po_some pe_int)) (v_ 11)) (v_ 7)))) pss_nil) (Evl.pss_cut (ps_if (pt_c (inK K) (v_ 11) (v_ 9)) (pss_one (ps_set (i := 11) sc__law_names.nd rfl (.inl rfl) (pe_op (addK K) (v_ 11) pe_str))) pss_nil) (pss_one (ps_expr (pe_bm PySem.F.plainAttrs_list PySem.F.slot_list_append PySem.F.type_list_append mt_append (v_ 10) (pa_cons (v_ 11) pa_nil)))))))))) (pss_one (ps_ret (v_ 10)))))))))))))), ?_⟩
  refine ⟨st, scr, _, rfl, hd, by decide, many_small (by decide) (by decide), fun sty l1 s0 s1 hd1 => ?_⟩
  have b1 : Bt st H (upd H st (.lst l1)) := Bt.st
  generalize upd H st (.lst l1) = H1 at hd1 b1 ⊢
  refine ⟨st, scr, _, rfl, hd1, by decide, many_small (by decide) (by decide), fun sh l2 h0 h1 hd2 => ?_⟩
  have b2 := b1.trans (Bt.st (st := st) (o := .lst l2))
  generalize upd H1 st (.lst l2) = H2 at hd2 b2 ⊢
  refine ⟨st, scr, _, rfl, hd2, by decide, many_small (by decide) (by decide), fun cd l3 c0 c1 hd3 => ?_⟩
  have b3 := b2.trans (Bt.st (st := st) (o := .lst l3))
  generalize upd H2 st (.lst l3) = H3 at hd3 b3 ⊢
  refine ⟨st, scr, _, rfl, hd3, by decide, many_small (by decide) (by decide), fun spt l4 p0 p1 hd4 => ?_⟩
  have b4 := b3.trans (Bt.st (st := st) (o := .lst l4))
  generalize upd H3 st (.lst l4) = H4 at hd4 b4 ⊢
  refine ⟨6, rfl, by decide, by decide, ?_⟩
  refine for_range (lo := 0) (n := 6) (fun i σ' H' => ∃ (z : Str) (code : Int) (y : Option V), σ' = [some (.ref st), some (.int n), some (.str letters), some (.int sty), some (.int sh), some (.int code), some (.int spt), some (.str z), y, none, none, none] ∧ H' = H4 ∧ z.length = i ∧ ∀ d ∈ z.cps.toList, d ∈ letters.cps.toList) ?_ ?_ ?_
  · exact ⟨_, _, _, rfl, rfl, rfl, fun _ h => nomatch h⟩
  · rintro i σ' H' hi ⟨z, code, y, rfl, rfl, hz, ha⟩
    refine ⟨by decide, ?_⟩
    have r0 := Int.emod_nonneg code (by decide : (26 : Int) ≠ 0)
    have r1 := Int.emod_lt_of_pos code (by decide : (0 : Int) < 26)
    refine ⟨line_of (by decide +kernel), _, letter_at r0 r1, line_of (by rw [one_len]; omega), ?_⟩
    refine ⟨.inl ⟨by decide, by decide⟩, ?_⟩
    refine ⟨_, _, _, rfl, rfl, by rw [len_add, one_len, hz], fun d hd => ?_⟩
    rw [cps_add, one_cps] at hd
    rcases List.mem_append.mp hd with h | h
    · exact ha d h
    · rw [List.mem_singleton.mp h]
      exact letter_mem (by omega)
  rintro σ' H' ⟨bs, code, y, rfl, rfl, hz, ha⟩
  have hbl : bs.cps.toList.length = 6 := by rw [len_cps]; exact hz
  refine ⟨(by show 12 ≤ sizeLine; decide), fun o no => ?_⟩
  refine ⟨(by show 6 ≤ sizeLine; decide), fun p np => ?_⟩
  have hpo := new_ne np
  refine .inl ⟨_, _, (by rw [upd_ne hpo.symm, upd_same]), upd_same, (by show 18 ≤ sizeLine; decide), fun rv nrv => ?_⟩
  have sm := ((same_new (o := .lst [.str "always", .str "never", .str "and", .str "or", .str "not", .str "when", .str "add", .str "set", .str "change", .str "tell", .str "refuse", .str "take"]) no).trans (same_new (o := .lst [.str "look", .str "free", .str "lock", .str "keep", .str "keys", .str "fields"]) np)).trans (same_new (o := .lst resv) nrv)
  generalize hH5 : upd _ rv _ = H5
  have hrv : H5 rv = some (.lst resv) := by rw [← hH5]; exact upd_same
  have hd5 : DrAt H5 st scr := by rw [← hH5]; exact hd4.new sm
  have b5 : Bt st H H5 := by rw [← hH5]; exact b4.trans (Bt.same (st := st) sm)
  clear hH5
  refine ⟨Nat.zero_le _, fun L nL => ?_⟩
  generalize hH6 : upd _ L _ = H6
  have hrv2 : H6 rv = some (.lst resv) := by rw [← hH6]; exact same_new nL _ _ hrv
  have hd6 : DrAt H6 st scr := by rw [← hH6]; exact hd5.new (same_new nL)
  have b6 : Bt st H H6 := by rw [← hH6]; exact b5.trans (Bt.same (st := st) (same_new nL))
  have L0 : H L = none := b5.free (hd5.ne_new nL) nL
  have eL : H6 L = some (.lst []) := by rw [← hH6]; exact upd_same
  have Ls : L ≠ st := hd5.ne_new nL
  have Lc : L ≠ scr := hd5.ne_scr nL
  have Lrv : rv ≠ L := ne_of_none hrv nL
  clear hH6
  refine ⟨n, rfl, by omega, by omega, ?_⟩
  obtain ⟨ps, hps⟩ : ∃ ps : Nat, ps = if sty = 1 then spt.toNat else if sty = 3 then 5 else 0 := ⟨_, rfl⟩
  refine for_range (lo := 0) (n := n) (fun i σ' H' => ∃ (y z : Option V) (zs : List Str), σ' = [some (.ref st), some (.int n), some (.str letters), some (.int sty), some (.int sh), some (.int code), some (.int spt), some (.str bs), y, some (.ref rv), some (.ref L), z] ∧ H' = upd H6 L (.lst (zs.map V.str)) ∧ zs.length = i ∧
    ∀ (j : Nat) (z : Str), zs[j]? = some z → Lt z ps (97 + ((sh + 7 * (j : Int)) % 26).toNat) ∧ inV (.str z) resv = false) ?_ ?_ ?_
  · exact ⟨_, _, [], rfl, (upd_id eL).symm, rfl, fun j z h => nomatch h⟩
  · rintro i σ' H' hi ⟨y, z, zs, rfl, rfl, hzl, hzs⟩
    have r0 := Int.emod_nonneg (sh + 7 * (0 + (i : Int))) (by decide : (26 : Int) ≠ 0)
    have r1 := Int.emod_lt_of_pos (sh + 7 * (0 + (i : Int))) (by decide : (0 : Int) < 26)
    refine ⟨.inl (.inl ⟨by decide, by decide⟩), by decide, ?_⟩
    refine ⟨line_of (by decide +kernel), _, letter_at r0 r1, ?_⟩
    have hcm := letter_mem (i := ((sh + 7 * (0 + (i : Int))) % 26).toNat) (by omega)
    rw [Int.zero_add] at hcm r0 r1 ⊢
    generalize hcc : 97 + ((sh + 7 * (i : Int)) % 26).toNat = ch at hcm ⊢
    have hrv3 : (upd H6 L (.lst (zs.map V.str))) rv = some (.lst resv) := by rw [upd_ne Lrv]; exact hrv2
    refine ⟨fun σ' H' => ∃ w : Str, σ' = [some (.ref st), some (.int n), some (.str letters), some (.int sty), some (.int sh), some (.int code), some (.int spt), some (.str bs), some (.int i), some (.ref rv), some (.ref L), some (.str w)] ∧ H' = upd H6 L (.lst (zs.map V.str)) ∧ (sty = 1 → Lt w ps ch) ∧ (sty ≠ 1 → w = ⟨#[ch]⟩), ?_, ?_⟩
    · refine ite2 (fun e => ?_) (fun e => ?_)
      · have e : sty = 1 := of_decide_eq_true e
        have l1 := cutS_length bs none (some spt)
        have l2 := cutS_length bs (some spt) none
        have e1 := cutS_take bs (k := spt.toNat)
        have e2 := cutS_drop bs (k := spt.toNat)
        rw [show ((spt.toNat : Nat) : Int) = spt by omega] at e1 e2
        refine ⟨_, rfl, line_of (by omega), line_of (by rw [one_len]; omega), _, rfl, line_of (by omega), line_of (by rw [len_add, one_len]; omega), ?_⟩
        refine ⟨_, rfl, rfl, fun _ => ⟨fun d hd => ?_, ?_, ?_⟩, fun h => absurd e h⟩
        · rw [cps_add, cps_add, e1, e2, one_cps] at hd
          rcases List.mem_append.mp hd with h | h
          · rcases List.mem_append.mp h with h | h
            · exact ha d (List.mem_of_mem_take h)
            · rw [List.mem_singleton.mp h]; exact hcm
          · exact ha d (List.mem_of_mem_drop h)
        · have hps1 : ps = spt.toNat := by rw [hps, if_pos e]
          rw [cps_add, cps_add, e1, e2, one_cps, hps1, List.append_assoc, List.getElem?_append_right (by rw [List.length_take]; omega), List.length_take, hbl, Nat.min_eq_left (by omega), Nat.sub_self]
          rfl
        · rw [len_add, len_add, ← len_cps (cutS bs none (some spt)), ← len_cps (cutS bs (some spt) none), e1, e2, one_len, List.length_take, List.length_drop]
          omega
      · have e : ¬ sty = 1 := of_decide_eq_false (Bool.eq_false_iff.mpr e)
        exact ⟨_, rfl, rfl, fun h => absurd h e, fun _ => rfl⟩
    rintro σ' H' ⟨w, rfl, rfl, g1, g2⟩
    refine ⟨fun σ' H' => ∃ w : Str, σ' = [some (.ref st), some (.int n), some (.str letters), some (.int sty), some (.int sh), some (.int code), some (.int spt), some (.str bs), some (.int i), some (.ref rv), some (.ref L), some (.str w)] ∧ H' = upd H6 L (.lst (zs.map V.str)) ∧ (sty ≠ 3 → Lt w ps ch) ∧ (sty = 3 → w = ⟨#[ch]⟩), ?_, ?_⟩
    · refine ite2 (fun e => ?_) (fun e => ?_)
      · have e : sty = 2 := of_decide_eq_true e
        have hw := g2 (by omega)
        subst hw
        have r2 := Int.emod_nonneg (3 * (i : Int) + spt) (by decide : (7 : Int) ≠ 0)
        have e1 := cutS_take bs (k := ((3 * (i : Int) + spt) % 7).toNat)
        rw [show ((((3 * (i : Int) + spt) % 7).toNat : Nat) : Int) = (3 * (i : Int) + spt) % 7 by omega] at e1
        have l1 := cutS_length bs none (some ((3 * (i : Int) + spt) % 7))
        refine ⟨.inl (.inl ⟨by decide, by decide⟩), by decide, _, rfl, line_of (by omega), line_of (by rw [one_len]; omega), ?_⟩
        refine ⟨_, rfl, rfl, fun _ => ⟨fun d hd => ?_, ?_, ?_⟩, fun h => absurd h (by omega)⟩
        · rw [cps_add, e1, one_cps] at hd
          rcases List.mem_append.mp hd with h | h
          · rw [List.mem_singleton.mp h]; exact hcm
          · exact ha d (List.mem_of_mem_take h)
        · have hps1 : ps = 0 := by rw [hps, if_neg (by omega), if_neg (by omega)]
          rw [cps_add, one_cps, hps1]
          rfl
        · rw [len_add, one_len]
          omega
      · have e : ¬ sty = 2 := of_decide_eq_false (Bool.eq_false_iff.mpr e)
        refine ⟨w, rfl, rfl, fun h3 => ?_, fun h3 => g2 (by omega)⟩
        by_cases h1 : sty = 1
        · exact g1 h1
        · have hw := g2 h1
          subst hw
          refine ⟨fun d hd => ?_, ?_, by rw [one_len]; decide⟩
          · rw [List.mem_singleton.mp hd]; exact hcm
          · have hps1 : ps = 0 := by rw [hps, if_neg h1, if_neg h3]
            rw [hps1]
            rfl
    rintro σ' H' ⟨w, rfl, rfl, g1, g2⟩
    refine ⟨fun σ' H' => ∃ w : Str, σ' = [some (.ref st), some (.int n), some (.str letters), some (.int sty), some (.int sh), some (.int code), some (.int spt), some (.str bs), some (.int i), some (.ref rv), some (.ref L), some (.str w)] ∧ H' = upd H6 L (.lst (zs.map V.str)) ∧ Lt w ps ch, ?_, ?_⟩
    · refine ite2 (fun e => ?_) (fun e => ?_)
      · have e : sty = 3 := of_decide_eq_true e
        have hw := g2 e
        subst hw
        have e1 := cutS_take bs (k := 5)
        have l1 := cutS_length bs none (some 5)
        refine ⟨_, rfl, line_of (by omega), line_of (by rw [one_len]; omega), line_of (by rw [len_add, one_len]; omega), ?_⟩
        refine ⟨_, rfl, rfl, fun d hd => ?_, ?_, ?_⟩
        · rw [cps_add, cps_add, show (cutS bs none (some (5 : Int))).cps.toList = bs.cps.toList.take 5 from e1, one_cps] at hd
          rcases List.mem_append.mp hd with h | h
          · rcases List.mem_append.mp h with h | h
            · exact ha d (List.mem_of_mem_take h)
            · rw [List.mem_singleton.mp h]; exact hcm
          · exact ha d h
        · have hps1 : ps = 5 := by rw [hps, if_neg (by omega), if_pos e]
          rw [cps_add, cps_add, show (cutS bs none (some (5 : Int))).cps.toList = bs.cps.toList.take 5 from e1, one_cps, hps1, List.append_assoc, List.getElem?_append_right (by rw [List.length_take]; omega), List.length_take, hbl]
          rfl
        · rw [len_add, len_add, ← len_cps (cutS bs none (some (5 : Int))), show (cutS bs none (some (5 : Int))).cps.toList = bs.cps.toList.take 5 from e1, one_len, List.length_take]
          omega
      · have e : ¬ sty = 3 := of_decide_eq_false (Bool.eq_false_iff.mpr e)
        exact ⟨w, rfl, rfl, g1 e⟩
    rintro σ' H' ⟨w, rfl, rfl, g1⟩
    refine ⟨fun σ' H' => ∃ w : Str, σ' = [some (.ref st), some (.int n), some (.str letters), some (.int sty), some (.int sh), some (.int code), some (.int spt), some (.str bs), some (.int i), some (.ref rv), some (.ref L), some (.str w)] ∧ H' = upd H6 L (.lst (zs.map V.str)) ∧ Lt w ps ch ∧ inV (.str w) resv = false, ?_, ?_⟩
    · refine ⟨_, .inl (SqL.of hrv3), rfl, rfl, ?_⟩
      refine ite2 (fun e => ?_) (fun e => ?_)
      · have e : inV (.str w) resv = true := e
        obtain ⟨z1, z2⟩ := resv_z e
        exact ⟨line_of (by show w.length + 1 ≤ _; omega), _, rfl, rfl, g1.z z2, z1⟩
      · exact ⟨w, rfl, rfl, g1, Bool.eq_false_iff.mpr e⟩
    rintro σ' H' ⟨w, rfl, rfl, g1, gr⟩
    refine ⟨.inl ⟨rfl, _, SqL.of upd_same⟩, L, _, _, rfl, rfl, upd_same, line_lt (by rw [List.length_map]; omega), ?_⟩
    refine ⟨_, _, zs ++ [w], rfl, ?_, by rw [List.length_append, hzl]; rfl, fun j z hj => ?_⟩
    · rw [upd_upd, List.map_append]
      rfl
    · by_cases h : j < zs.length
      · rw [List.getElem?_append_left h] at hj
        exact hzs j z hj
      · rw [List.getElem?_append_right (by omega)] at hj
        have hj0 : j - zs.length = 0 := by
          have := (List.getElem?_eq_some_iff.mp hj).1
          rw [List.length_singleton] at this
          omega
        rw [hj0] at hj
        cases hj
        rw [show j = i by omega, hcc]
        exact ⟨g1, gr⟩
  · rintro σ' H' ⟨y, z, zs, rfl, rfl, hzl, hzs⟩
    refine q _ L zs ?_ (hd6.at Ls Lc) L0 upd_same (by omega) (fun z hz => ?_) ?_
    · intro b o nb hb
      rw [upd_ne (ne_of_none hb L0)]
      exact b6 b o nb hb
    · obtain ⟨j, hj, e⟩ := List.getElem_of_mem hz
      obtain ⟨h1, h2⟩ := hzs j z (by rw [List.getElem?_eq_getElem hj, e])
      exact ⟨h1.name h2, h1.2.2⟩
    · show List.Pairwise (· ≠ ·) zs
      rw [List.pairwise_iff_getElem]
      intro i j hi hj hij e
      have ej : zs[j]? = some zs[j] := List.getElem?_eq_getElem hj
      have ei : zs[i]? = some zs[j] := by rw [← e]; exact List.getElem?_eq_getElem hi
      obtain ⟨h1, _⟩ := hzs i _ ei
      obtain ⟨h2, _⟩ := hzs j _ ej
      have := h1.2.1.symm.trans h2.2.1
      have := Option.some.inj this
      omega
end
section
variable {P : Program} {w : World} {K : PySem.W.Frag} {mg : Str → Option Value} {base : Heap}
variable {t_LETTERS t_LONGEST_NAME : Tok} {a_DEEDS a_RESERVED a_BadName a_BadPlan a_ElseputError a_Plan a_UnknownName : Addr}
/-! ### steps that are drawn -/
structure Good (ps : List Stp) : Prop where
  nd : ps.Nodup
  dd : ∀ s ∈ ps, s.1 ∈ deeds
  fo : ∀ (i : Nat) (k : Str), ps[i]? = some (fr k) → tk k ∈ ps.take i
theorem Good.nil : Good [] := ⟨List.nodup_nil, fun _ h => (nomatch h), fun _ _ h => by simp at h⟩
theorem Good.add {ps : List Stp} {s : Stp} (g : Good ps) (n : s ∉ ps) (d : s.1 ∈ deeds) (f : ∀ k, s = fr k → tk k ∈ ps) : Good (ps ++ [s]) := by
  refine ⟨List.nodup_append.mpr ⟨g.nd, by simp, fun a ha b hb e => ?_⟩, fun u hu => ?_, fun i k e => ?_⟩
  · rw [List.mem_singleton.mp hb] at e
    exact n (e ▸ ha)
  · rcases List.mem_append.mp hu with h | h
    · exact g.dd u h
    · rw [List.mem_singleton.mp h]
      exact d
  · by_cases hi : i < ps.length
    · rw [List.getElem?_append_left hi] at e
      rw [List.take_append_of_le_length (by omega)]
      exact g.fo i k e
    · rw [List.getElem?_append_right (by omega)] at e
      have hz : i - ps.length = 0 := by
        by_cases z : i - ps.length = 0
        · exact z
        · rw [List.getElem?_eq_none (by rw [List.length_singleton]; omega)] at e
          cases e
      rw [hz] at e
      rw [List.take_append_of_le_length (by omega), List.take_of_length_le (by omega)]
      exact f k (Option.some.inj e)
/-- ps0 and steps of k behind it, of which a, b, c tell -/
structure Mid (ps0 : List Stp) (k : Str) (n : Nat) (a b c : Prop) (ps : List Stp) : Prop where
  g : Good ps
  old : ∀ s ∈ ps0, s ∈ ps
  new : ∀ s ∈ ps, s ∈ ps0 ∨ s.2 = k
  a_ : tk k ∈ ps ↔ a
  b_ : lo k ∈ ps ↔ b
  c_ : fr k ∈ ps ↔ c
  len : ps.length ≤ ps0.length + n
theorem Mid.to {ps0 ps : List Stp} {k : Str} {n m : Nat} {a b c a' b' c' : Prop} (h : Mid ps0 k n a b c ps) (l : n ≤ m) (ha : a ↔ a') (hb : b ↔ b') (hc : c ↔ c') : Mid ps0 k m a' b' c' ps :=
  ⟨h.g, h.old, h.new, h.a_.trans ha, h.b_.trans hb, h.c_.trans hc, by have := h.len; omega⟩
theorem mem_snoc {α : Type} {l : List α} {x y : α} : x ∈ l ++ [y] ↔ x ∈ l ∨ x = y := by rw [List.mem_append, List.mem_singleton]
theorem Mid.add {ps0 ps : List Stp} {k : Str} {n : Nat} {a b c : Prop} (h : Mid ps0 k n a b c ps) (s : Stp) (e : s.2 = k) (ns : s ∉ ps) (d : s.1 ∈ deeds) (f : ∀ k, s = fr k → tk k ∈ ps) : Mid ps0 k (n + 1) (a ∨ tk k = s) (b ∨ lo k = s) (c ∨ fr k = s) (ps ++ [s]) := by
  refine ⟨h.g.add ns d f, fun u hu => mem_snoc.mpr (.inl (h.old u hu)), fun u hu => ?_, ?_, ?_, ?_, ?_⟩
  · rcases mem_snoc.mp hu with z | z
    · exact h.new u z
    · exact .inr (by rw [z]; exact e)
  · rw [mem_snoc, h.a_]
  · rw [mem_snoc, h.b_]
  · rw [mem_snoc, h.c_]
  · have := h.len
    rw [List.length_append, List.length_singleton]
    omega
theorem tk_lo (k j : Str) : tk k ≠ lo j := fun h => absurd (congrArg Prod.fst h) (by decide +kernel : ("take" : Str) ≠ "look")
theorem tk_fr (k j : Str) : tk k ≠ fr j := fun h => absurd (congrArg Prod.fst h) (by decide +kernel : ("take" : Str) ≠ "free")
theorem lo_fr (k j : Str) : lo k ≠ fr j := fun h => absurd (congrArg Prod.fst h) (by decide +kernel : ("look" : Str) ≠ "free")
theorem Mid.take {ps0 ps : List Stp} {k : Str} {n : Nat} {a b c : Prop} (h : Mid ps0 k n a b c ps) (na : ¬ a) : Mid ps0 k (n + 1) True b c (ps ++ [tk k]) :=
  (h.add (tk k) rfl (fun z => na (h.a_.mp z)) (by show ("take" : Str) ∈ deeds; decide +kernel) fun j e => absurd e (tk_fr k j)).to (Nat.le_refl _) ⟨fun _ => trivial, fun _ => .inr rfl⟩ ⟨fun z => z.elim id fun z => absurd z.symm (tk_lo k k), .inl⟩ ⟨fun z => z.elim id fun z => absurd z.symm (tk_fr k k), .inl⟩
theorem Mid.look {ps0 ps : List Stp} {k : Str} {n : Nat} {a b c : Prop} (h : Mid ps0 k n a b c ps) (nb : ¬ b) : Mid ps0 k (n + 1) a True c (ps ++ [lo k]) :=
  (h.add (lo k) rfl (fun z => nb (h.b_.mp z)) (by show ("look" : Str) ∈ deeds; decide +kernel) fun j e => absurd e (lo_fr k j)).to (Nat.le_refl _) ⟨fun z => z.elim id fun z => absurd z (tk_lo k k), .inl⟩ ⟨fun _ => trivial, fun _ => .inr rfl⟩ ⟨fun z => z.elim id fun z => absurd z.symm (lo_fr k k), .inl⟩
theorem Mid.free {ps0 ps : List Stp} {k : Str} {n : Nat} {a b c : Prop} (h : Mid ps0 k n a b c ps) (nc : ¬ c) (ha : a) : Mid ps0 k (n + 1) a b True (ps ++ [fr k]) :=
  (h.add (fr k) rfl (fun z => nc (h.c_.mp z)) (by show ("free" : Str) ∈ deeds; decide +kernel) fun j e => by cases e; exact h.a_.mpr ha).to (Nat.le_refl _) ⟨fun z => z.elim id fun z => absurd z (tk_fr k k), .inl⟩ ⟨fun z => z.elim id fun z => absurd z (lo_fr k k), .inl⟩ ⟨fun _ => trivial, fun _ => .inr rfl⟩
/-- valid steps over the keys cs -/
structure Wild (cs : List Str) (ps : List Stp) : Prop where
  g : Good ps
  sub : ∀ s ∈ ps, s.2 ∈ cs
  all : ∀ k ∈ cs, lo k ∈ ps
  len : ps.length ≤ 40
  ne : cs ≠ [] → ps ≠ []
theorem Wild.fits {cs : List Str} {ps : List Stp} (h : Wild cs ps) (n : ps ≠ []) : stepsFit ps = true := by
  unfold stepsFit
  rw [decide_eq_true n, decide_eq_true h.g.nd, Bool.true_and, Bool.true_and, List.all_eq_true]
  intro i hi
  have hi := List.mem_range.mp hi
  obtain ⟨p, e⟩ : ∃ p, ps[i]? = some p := ⟨_, List.getElem?_eq_getElem hi⟩
  rw [e]
  obtain ⟨d, k⟩ := p
  have m := List.mem_of_getElem? e
  show stepFits ps i (d, k) = true
  unfold stepFits
  rw [if_neg fun z => z.2 (h.g.fo i k (by rw [e]; exact congrArg (fun d => some (d, k)) z.1)), decide_eq_true (h.g.dd _ m), decide_eq_true (h.all _ (h.sub _ m))]
  rfl
theorem keys_fits {cs zs : List Str} {ps : List Stp} (h : Wild cs ps) (n : zs.Nodup) (s : ∀ z ∈ zs, z ∈ cs) : keysFit ps zs = true := by
  unfold keysFit
  rw [decide_eq_true n, Bool.true_and, List.all_eq_true]
  exact fun z hz => decide_eq_true (h.all z (s z hz))
/-! ### the lists in hand -/
def unV : V → Str
  | .str z => z
  | _ => Str.empty
theorem perm_strs {ys : List V} {zs : List Str} (h : ys.Perm (zs.map V.str)) : ∃ ws : List Str, ys = ws.map V.str ∧ ws.Perm zs := by
  refine ⟨ys.map unV, ?_, ?_⟩
  · rw [List.map_map]
    conv => lhs; rw [← List.map_id ys]
    refine List.map_congr_left fun v hv => ?_
    obtain ⟨z, _, rfl⟩ := List.mem_map.mp (h.mem_iff.mp hv)
    rfl
  · have z := h.map unV
    rw [List.map_map] at z
    have e : zs.map (unV ∘ V.str) = zs := by
      conv => rhs; rw [← List.map_id zs]
      rfl
    rw [e] at z
    exact z
/-- a list of steps at R, in a heap that comes from H0 -/
structure WR (K : PySem.W.Frag) (H0 H : Hp) (st scr R : Addr) (ps : List Stp) : Prop where
  bt : Bt st H0 H
  dr : DrAt H st scr
  r : ∃ us, H R = some (.lst us) ∧ PairsIn K H us ps
theorem wr_add {K : PySem.W.Frag} {H0 H : Hp} {st scr R T : Addr} {ps : List Stp} {us : List V} (w : WR K H0 H st scr R ps) (nR : H0 R = none) (dR : DrAt H0 st scr) (hR : H R = some (.lst us)) (hp : PairsIn K H us ps) (nT : H T = none) (s : Stp) :
    WR K H0 (upd (upd H T (.tup [.str s.1, .str s.2])) R (.lst (us ++ [.ref T]))) st scr R (ps ++ [s]) ∧ ∀ b o, b ≠ R → H b = some o → (upd (upd H T (.tup [.str s.1, .str s.2])) R (.lst (us ++ [.ref T]))) b = some o := by
  have keep : ∀ b o, b ≠ R → H b = some o → (upd (upd H T (.tup [.str s.1, .str s.2])) R (.lst (us ++ [.ref T]))) b = some o := fun b o n e => by rw [upd_ne n]; exact same_new nT _ _ e
  have hs := same_new (o := .tup [.str s.1, .str s.2]) nT
  have ne1 := dR.ne_new nR
  have ne2 := dR.ne_scr nR
  refine ⟨⟨fun b o n e => keep b o (ne_of_none e nR) (w.bt b o n e), (w.dr.new hs).at ne1 ne2, us ++ [.ref T], upd_same, ?_⟩, keep⟩
  refine pairs_snoc (pairs_bt (pairs_same hp hs) (NT.lst ⟨_, hs _ _ hR⟩) Bt.st) ⟨T, rfl, SqT.of ?_⟩
  rw [upd_ne (ne_of_none hR nT).symm, upd_same]
theorem wr_draw {K : PySem.W.Frag} {H0 H : Hp} {st scr R : Addr} {ps : List Stp} {l : List V} (w : WR K H0 H st scr R ps) (nR : H0 R = none) (dR : DrAt H0 st scr) (d : DrAt (upd H st (.lst l)) st scr) : WR K H0 (upd H st (.lst l)) st scr R ps := by
  obtain ⟨us, e, hp⟩ := w.r
  exact ⟨w.bt.trans Bt.st, d, us, by rw [upd_ne (dR.ne_new nR)]; exact e, pairs_bt hp (NT.lst w.dr.lst) Bt.st⟩
/-- the lists of early and of late keys besides -/
def HP (K : PySem.W.Frag) (H0 H : Hp) (st scr R Ea La : Addr) (ps : List Stp) (es ls : List Str) : Prop := WR K H0 H st scr R ps ∧ H Ea = some (.lst (es.map V.str)) ∧ H La = some (.lst (ls.map V.str))
def sp__law_wild_steps (K : PySem.W.Frag) : Sp := fun vs H Q _ => ∃ (st scr p : Addr) (cs : List Str), vs = [.ref st, .ref p] ∧ DrAt H st scr ∧ H p = some (.lst (cs.map V.str)) ∧ p ≠ st ∧ cs.Nodup ∧ cs.length ≤ 4 ∧
  ∀ (H' : Hp) (R : Addr) (ps : List Stp), Bt st H H' → DrAt H' st scr → H R = none → (∃ us, H' R = some (.lst us) ∧ PairsIn K H' us ps) → Wild cs ps → Q (.ref R) H'
theorem len__law_wild_steps {vs : List V} {H : Hp} {Q : VK} {E : XK} (h : sp__law_wild_steps K vs H Q E) : vs.length = 2 := by
  obtain ⟨_, _, _, _, rfl, _⟩ := h
  rfl
theorem not_in_take {cs : List Str} {i : Nat} {k : Str} (n : cs.Nodup) (e : cs[i]? = some k) : k ∉ cs.take i := fun h => by
  obtain ⟨j, hj, ej⟩ := List.getElem_of_mem h
  have ej : (cs.take i)[j]? = some k := by rw [List.getElem?_eq_getElem hj, ej]
  rw [List.length_take] at hj
  rw [List.getElem?_take_of_lt (by omega)] at ej
  have := (List.getElem?_inj (by omega) n).mp (ej.trans e.symm)
  omega
theorem not_in_drop {cs : List Str} {i : Nat} {k : Str} (n : cs.Nodup) (e : cs[i]? = some k) {j : Str} (h : j ∈ cs.drop (i + 1)) : j ≠ k := fun z => by
  obtain ⟨hi, e2⟩ := List.getElem?_eq_some_iff.mp e
  have d : cs.drop i = k :: cs.drop (i + 1) := by rw [List.drop_eq_getElem_cons hi, e2]
  have nn : (cs.drop i).Nodup := n.sublist (List.drop_sublist i cs)
  rw [d, List.nodup_cons] at nn
  exact nn.1 (z ▸ h)
/-- behind the first i keys -/
structure Half (cs es ls : List Str) (i : Nat) (ps : List Stp) : Prop where
  g : Good ps
  sub : ∀ s ∈ ps, s.2 ∈ cs
  left : ∀ s ∈ ps, s.2 ∈ cs.drop i → s.1 = "take" ∧ s.2 ∈ es
  done : ∀ k ∈ cs.take i, lo k ∈ ps
  late : ls.Nodup ∧ ∀ k ∈ ls, k ∈ cs.take i ∧ tk k ∈ ps ∧ fr k ∉ ps
  early : ∀ k ∈ es, tk k ∈ ps
  len : ps.length ≤ 4 + 5 * i ∧ ls.length ≤ i
theorem Half.mid {cs es ls : List Str} {i : Nat} {ps : List Stp} {k : Str} (h : Half cs es ls i ps) (e : cs[i]? = some k) : Mid ps k 0 (k ∈ es) False False ps := by
  obtain ⟨hi, e2⟩ := List.getElem?_eq_some_iff.mp e
  have kd : k ∈ cs.drop i := by
    rw [List.drop_eq_getElem_cons hi, e2]
    exact List.mem_cons_self
  refine ⟨h.g, fun _ z => z, fun _ z => .inl z, ⟨fun z => (h.left _ z kd).2, h.early k⟩, ⟨fun z => ?_, False.elim⟩, ⟨fun z => ?_, False.elim⟩, Nat.le_refl _⟩
  · exact absurd (h.left _ z kd).1 (by show ("look" : Str) ≠ "take"; decide +kernel)
  · exact absurd (h.left _ z kd).1 (by show ("free" : Str) ≠ "take"; decide +kernel)
theorem Half.next {cs es ls ls' : List Str} {i : Nat} {ps ps' : List Stp} {k : Str} {a c : Prop} (h : Half cs es ls i ps) (n : cs.Nodup) (e : cs[i]? = some k) (m : Mid ps k 5 a True c ps') (hl : ls' = ls ∨ (ls' = ls ++ [k] ∧ a ∧ ¬ c)) (es_ : ∀ k ∈ es, k ∈ cs) : Half cs es ls' (i + 1) ps' := by
  have kt := not_in_take n e
  have km : k ∈ cs := List.mem_of_getElem? e
  have old : ∀ j, j ∈ cs.take i → ∀ d, ((d, j) : Stp) ∈ ps' → ((d, j) : Stp) ∈ ps := fun j hj d hd => (m.new _ hd).elim id fun z => absurd (z ▸ hj) kt
  refine ⟨m.g, fun s hs => (m.new s hs).elim (h.sub s) (fun z => z ▸ km), fun s hs hd => ?_, fun j hj => ?_, ?_, fun j hj => m.old _ (h.early j hj), ?_⟩
  · rcases m.new s hs with z | z
    · exact h.left s z (List.mem_of_mem_drop (l := cs.drop i) (i := 1) (by rw [List.drop_drop]; exact hd))
    · exact absurd z (not_in_drop n e hd)
  · rw [take_snoc e] at hj
    rcases mem_snoc.mp hj with z | z
    · exact m.old _ (h.done j z)
    · rw [z]
      exact m.b_.mpr trivial
  · have up : ∀ j ∈ ls, j ∈ cs.take (i + 1) ∧ tk j ∈ ps' ∧ fr j ∉ ps' := fun j hj => by
      obtain ⟨u1, u2, u3⟩ := h.late.2 j hj
      exact ⟨by rw [take_snoc e]; exact List.mem_append_left _ u1, m.old _ u2, fun z => u3 (old j u1 _ z)⟩
    rcases hl with rfl | ⟨rfl, ha, hc⟩
    · exact ⟨h.late.1, up⟩
    · refine ⟨List.nodup_append.mpr ⟨h.late.1, by simp, fun u hu v hv z => ?_⟩, fun j hj => ?_⟩
      · rw [List.mem_singleton.mp hv] at z
        exact kt (z ▸ (h.late.2 u hu).1)
      · rcases mem_snoc.mp hj with z | z
        · exact up j z
        · rw [z]
          exact ⟨by rw [take_snoc e]; exact mem_snoc.mpr (.inr rfl), m.a_.mpr ha, fun w => hc (m.c_.mp w)⟩
  · have := m.len
    have := h.len
    rcases hl with rfl | ⟨rfl, _⟩
    · omega
    · rw [List.length_append, List.length_singleton]
      omega
theorem ok__law_wild_steps {f : Addr} {fd : FuncData} {f__law_mixed : Addr} {fd__law_mixed : FuncData} {f__law_draw : Addr} {fd__law_draw : FuncData} (F : Fun K "_law_wild_steps" "_law_wild_steps" s__law_wild_steps f fd) (T : Gs K mg t_LETTERS t_LONGEST_NAME a_DEEDS a_RESERVED a_BadName a_BadPlan a_ElseputError a_Plan a_UnknownName) (c__law_mixed : Cal P w K mg base CX0 2 "_law_mixed" f__law_mixed fd__law_mixed ["_law_state_here", "_law_row"] (sp__law_mixed K)) (c__law_draw : Cal P w K mg base CX0 1 "_law_draw" f__law_draw fd__law_draw ["_law_state_here", "_law_many"] (sp__law_draw K)) : FnOk P w K mg base CX0 3 f fd ["_law_state_here", "_law_carried"] (sp__law_wild_steps K) := by
  refine F.ok sc__law_wild_steps (fun vs H Q E h => len__law_wild_steps h) (fun cdv A outer s H vs Q E hr h => ?_)
  obtain ⟨st, scr, p, cs, rfl, hd, hp, hne, nd, lc, q⟩ := h
  refine ⟨_, (pss_cons (ps_set (i := 2) sc__law_wild_steps.nd rfl (.inl rfl) (pe_lst pa_nil)) (pss_cons (ps_set (i := 3) sc__law_wild_steps.nd rfl (.inl rfl) (pe_lst pa_nil)) (pss_cons (ps_for PassesOwn.never rfl (pi_list (pe_call c__law_mixed.G (hr.mono (by first | decide | omega)) rfl c__law_mixed.m c__law_mixed.kp c__law_mixed.b .nil pass0 (pa_cons (v_ 0) (pa_cons (v_ 1) pa_nil)))) (pg_name (i := 4) sc__law_wild_steps.nd rfl (.inl rfl)) (pss_one (ps_if (pt_c (eqK K hr.units) (pe_call c__law_draw.G (hr.mono (by first | decide | omega)) rfl c__law_draw.m c__law_draw.kp c__law_draw.b .nil pass0 (pa_cons (v_ 0) (pa_cons pe_int pa_nil))) pe_int) (pss_cons (ps_expr (pe_bm PySem.F.plainAttrs_list PySem.F.slot_list_append PySem.F.type_list_append mt_append (v_ 2) (pa_cons (pe_tup (pa_cons pe_str (pa_cons (v_ 4) pa_nil))) pa_nil))) (pss_one (ps_expr (pe_bm PySem.F.plainAttrs_list PySem.F.slot_list_append PySem.F.type_list_append mt_append (v_ 3) (pa_cons (v_ 4) pa_nil))))) pss_nil))) (pss_cons (ps_set (i := 5) sc__law_wild_steps.nd rfl (.inl rfl) (pe_lst pa_nil)) (pss_cons (ps_for PassesOwn.never rfl (pi_list (v_ 1)) (pg_name (i := 4) sc__law_wild_steps.nd rfl (.inl rfl)) (pss_cons (ps_set (i := 6) sc__law_wild_steps.nd rfl (.inl rfl) (pe_call c__law_draw.G (hr.mono (by first | decide | omega)) rfl c__law_draw.m c__law_draw.kp c__law_draw.b .nil pass0 (pa_cons (v_ 0) (pa_cons pe_int pa_nil)))) (Evl.pss_cut (ps_if (PW.pt (pw_and (pt_c (notInK K) (v_ 4) (v_ 3)) (pw_and1 (pt_c op_gtM (v_ 6) pe_int)))) (pss_one (ps_expr (pe_bm PySem.F.plainAttrs_list PySem.F.slot_list_append PySem.F.type_list_append mt_append (v_ 2) (pa_cons (pe_tup (pa_cons pe_str (pa_cons (v_ 4) pa_nil))) pa_nil)))) pss_nil) (Evl.pss_cut (ps_if (pt_c (eqK K hr.units) (v_ 6) pe_int) (pss_one (ps_expr (pe_bm PySem.F.plainAttrs_list PySem.F.slot_list_append PySem.F.type_list_append mt_append (v_ 2) (pa_cons (pe_tup (pa_cons pe_str (pa_cons (v_ 4) pa_nil))) pa_nil)))) pss_nil) (pss_cons (ps_expr (pe_bm PySem.F.plainAttrs_list PySem.F.slot_list_append PySem.F.type_list_append mt_append (v_ 2) (pa_cons (pe_tup (pa_cons pe_str (pa_cons (v_ 4) pa_nil))) pa_nil))) (Evl.pss_cut (ps_if (PW.pt (pw_and (pt_c (notInK K) (v_ 4) (v_ 3)) (pw_and1 (pt_c (eqK K hr.units) (v_ 6) pe_int)))) (pss_one (ps_expr (pe_bm PySem.F.plainAttrs_list PySem.F.slot_list_append PySem.F.type_list_append mt_append (v_ 2) (pa_cons (pe_tup (pa_cons pe_str (pa_cons (v_ 4) pa_nil))) pa_nil)))) pss_nil) (Evl.pss_cut (ps_if (pt_c (eqK K hr.units) (v_ 6) pe_int) (pss_one (ps_expr (pe_bm PySem.F.plainAttrs_list PySem.F.slot_list_append PySem.F.type_list_append mt_append (v_ 2) (pa_cons (pe_tup (pa_cons pe_str (pa_cons (v_ 4) pa_nil))) pa_nil)))) pss_nil) (pss_one (ps_if (pt_c (eqK K hr.units) (v_ 6) pe_int) (pss_one (ps_expr (pe_bm PySem.F.plainAttrs_list PySem.F.slot_list_append PySem.F.type_list_append mt_append (v_ 5) (pa_cons (v_ 4) pa_nil)))) pss_nil))))))))) (pss_cons (ps_for PassesOwn.never rfl (pi_list (v_ 5)) (pg_name (i := 4) sc__law_wild_steps.nd rfl (.inl rfl)) (pss_one (ps_expr (pe_bm PySem.F.plainAttrs_list PySem.F.slot_list_append PySem.F.type_list_append mt_append (v_ 2) (pa_cons (pe_tup (pa_cons pe_str (pa_cons (v_ 4) pa_nil))) pa_nil))))) (pss_one (ps_ret (v_ 2))))))))), ?_⟩
  refine ⟨Nat.zero_le _, fun R nR => ?_⟩
  refine ⟨Nat.zero_le _, fun Ea nE => ?_⟩
  have ER : Ea ≠ R := new_ne nE
  have nE0 := free_new nE
  have dRs := hd.ne_new nR
  have dEs := hd.ne_new nE0
  have pR : p ≠ R := ne_of_none hp nR
  have pE : p ≠ Ea := ne_of_none hp nE0
  have sm0 := (same_new (o := .lst []) nR).trans (same_new (o := .lst []) nE)
  have w0 : WR K H (upd (upd H R (.lst [])) Ea (.lst [])) st scr R [] := ⟨Bt.same sm0, hd.new sm0, [], by rw [upd_ne ER.symm, upd_same], .nil⟩
  have e0 : (upd (upd H R (.lst [])) Ea (.lst [])) Ea = some (.lst (([] : List Str).map V.str)) := upd_same
  generalize upd (upd H R (.lst [])) Ea (.lst []) = H1 at w0 e0 sm0 ⊢
  refine ⟨st, scr, p, cs.map V.str, rfl, w0.dr, sm0 _ _ hp, hne, by rw [List.length_map]; omega, fun H2 m ys b2 d2 nm hm pm => ?_⟩
  obtain ⟨ms, eys, pmS⟩ := perm_strs pm
  subst eys
  clear pm
  have lm := pmS.length_eq
  have nm' : ms.Nodup := pmS.nodup_iff.mpr nd
  have w2 : WR K H H2 st scr R [] := by
    obtain ⟨us, e, hu⟩ := w0.r
    exact ⟨w0.bt.trans b2, d2, us, b2 _ _ dRs e, pairs_bt hu (NT.lst w0.dr.lst) b2⟩
  have e2 : H2 Ea = some (.lst (([] : List Str).map V.str)) := b2 _ _ dEs e0
  have mR : m ≠ R := by
    obtain ⟨us, e, hu⟩ := w0.r
    exact (ne_of_none e nm).symm
  have mE : m ≠ Ea := (ne_of_none e0 nm).symm
  have ms_ : m ≠ st := w0.dr.ne_new nm
  refine ⟨m, rfl, ⟨_, SqL.of hm⟩, ?_⟩
  refine for_list (K := K) (a := m) (xs := ms.map V.str) (fun i σ' H' => ∃ (y : Option V) (es : List Str), σ' = [some (.ref st), some (.ref p), some (.ref R), some (.ref Ea), y, none, none] ∧ WR K H H' st scr R (es.map tk) ∧ H' Ea = some (.lst (es.map V.str)) ∧ H' m = some (.lst (ms.map V.str)) ∧ es.Nodup ∧ (∀ k ∈ es, k ∈ ms.take i) ∧ es.length ≤ i) ⟨_, [], rfl, w2, e2, hm, List.nodup_nil, (fun _ h => nomatch h), Nat.le_refl _⟩ (fun i σ' H' _ h => by obtain ⟨_, _, _, _, _, h, _⟩ := h; exact SqL.of h) ?_ ?_
  · rintro i v σ' H3 hi ⟨y, es, rfl, w, he, hm3, ne, te, le⟩
    rw [List.getElem?_map] at hi
    obtain ⟨k, ek, rfl⟩ := Option.map_eq_some_iff.mp hi
    have il := (List.getElem?_eq_some_iff.mp ek).1
    refine ⟨st, scr, 4, rfl, w.dr, by decide, many_small (by decide) (by decide), fun r l r0 r1 d3 => ?_⟩
    have w := wr_draw w nR hd d3
    have he : upd H3 st (.lst l) Ea = some (.lst (es.map V.str)) := by rw [upd_ne dEs]; exact he
    have hm3 : upd H3 st (.lst l) m = some (.lst (ms.map V.str)) := by rw [upd_ne ms_]; exact hm3
    generalize upd H3 st (.lst l) = H4 at w he hm3 ⊢
    refine ite2 (fun c => ?_) (fun c => ?_)
    · obtain ⟨us, hR, hp1⟩ := w.r
      have ul := pairs_len hp1
      rw [List.length_map] at ul
      refine ⟨.inl ⟨rfl, _, SqL.of hR⟩, (by show 2 ≤ sizeLine; decide), fun T nT => ⟨R, us, .ref T, rfl, rfl, (same_new nT) _ _ hR, line_lt (by omega), ?_⟩⟩
      obtain ⟨w5, k5⟩ := wr_add w nR hd hR hp1 nT (tk k)
      have he5 := k5 _ _ ER he
      have hm5 := k5 _ _ mR hm3
      have nk : k ∉ es := fun h => not_in_take nm' ek (te k h)
      show (fun H5 => _) (upd (upd H4 T (.tup [.str (tk k).1, .str (tk k).2])) R (.lst (us ++ [.ref T])))
      generalize upd (upd H4 T (.tup [.str (tk k).1, .str (tk k).2])) R (.lst (us ++ [.ref T])) = H5 at w5 he5 hm5 ⊢
      refine ⟨.inl ⟨rfl, _, SqL.of he5⟩, Ea, es.map V.str, .str k, rfl, rfl, he5, line_lt (by rw [List.length_map]; omega), ?_⟩
      obtain ⟨us5, hR5, hp5⟩ := w5.r
      refine ⟨_, es ++ [k], rfl, ⟨fun b o n e => ?_, w5.dr.at dEs (hd.ne_scr nE0), us5, ?_, ?_⟩, ?_, ?_, ?_, ?_, ?_⟩
      · rw [upd_ne (ne_of_none e nE0)]; exact w5.bt b o n e
      · rw [upd_ne ER.symm]; exact hR5
      · rw [List.map_append]
        exact pairs_bt hp5 (NT.lst ⟨_, he5⟩) Bt.st
      · rw [upd_same, List.map_append]; rfl
      · rw [upd_ne mE]; exact hm5
      · exact List.nodup_append.mpr ⟨ne, by simp, fun a ha b hb e => nk (by rw [← List.mem_singleton.mp hb, ← e]; exact ha)⟩
      · intro j hj
        rw [take_snoc ek]
        rcases mem_snoc.mp hj with z | z
        · exact mem_snoc.mpr (.inl (te j z))
        · exact mem_snoc.mpr (.inr z)
      · rw [List.length_append, List.length_singleton]; omega
    · exact ⟨_, es, rfl, w, he, hm3, ne, fun j hj => by rw [take_snoc ek]; exact mem_snoc.mpr (.inl (te j hj)), by omega⟩
  rintro σ' H3 ⟨y, es, rfl, w3, he3, _, ne, te, le⟩
  rw [List.length_map] at te le
  rw [List.take_length] at te
  have ce : ∀ k ∈ es, k ∈ cs := fun k hk => pmS.mem_iff.mp (te k hk)
  refine ⟨Nat.zero_le _, fun La nL => ?_⟩
  have LR : La ≠ R := by
    obtain ⟨us, e, _⟩ := w3.r
    exact (ne_of_none e nL).symm
  have LE : La ≠ Ea := (ne_of_none he3 nL).symm
  have Ls : La ≠ st := w3.dr.ne_new nL
  have Lc : La ≠ scr := w3.dr.ne_scr nL
  have nL0 : H La = none := w3.bt.free Ls nL
  have sL := same_new (o := .lst []) nL
  have w4 : WR K H (upd H3 La (.lst [])) st scr R (es.map tk) := by
    obtain ⟨us, e, hu⟩ := w3.r
    exact ⟨w3.bt.trans (Bt.same sL), w3.dr.new sL, us, sL _ _ e, pairs_same hu sL⟩
  have he4 : (upd H3 La (.lst [])) Ea = some (.lst (es.map V.str)) := sL _ _ he3
  have hL4 : (upd H3 La (.lst [])) La = some (.lst (([] : List Str).map V.str)) := upd_same
  generalize upd H3 La (.lst []) = H4 at w4 he4 hL4 ⊢
  clear w3 he3 nL sL
  refine ⟨p, rfl, ⟨_, SqL.of (w4.bt _ _ hne hp)⟩, ?_⟩
  have tkn : ∀ k, tk k ∈ es.map tk ↔ k ∈ es := fun k => by
    rw [List.mem_map]
    exact ⟨fun ⟨j, hj, e⟩ => by cases e; exact hj, fun h => ⟨k, h, rfl⟩⟩
  have half0 : Half cs es [] 0 (es.map tk) := by
    refine ⟨⟨?_, fun s hs => ?_, fun i k e => ?_⟩, fun s hs => ?_, fun s hs _ => ?_, (fun _ h => nomatch h), ⟨List.nodup_nil, fun _ h => nomatch h⟩, fun k hk => (tkn k).mpr hk, ?_⟩
    · exact List.pairwise_map.mpr (List.Pairwise.imp (fun n e => n (congrArg Prod.snd e)) ne)
    · obtain ⟨j, _, rfl⟩ := List.mem_map.mp hs
      show ("take" : Str) ∈ deeds
      decide +kernel
    · rw [List.getElem?_map] at e
      obtain ⟨j, _, e⟩ := Option.map_eq_some_iff.mp e
      exact absurd e (tk_fr j k)
    · obtain ⟨j, hj, rfl⟩ := List.mem_map.mp hs
      exact ce j hj
    · obtain ⟨j, hj, rfl⟩ := List.mem_map.mp hs
      exact ⟨rfl, hj⟩
    · rw [List.length_map, List.length_nil]
      omega
  refine for_list (K := K) (a := p) (xs := cs.map V.str) (fun i σ' H' => ∃ (y z : Option V) (ps : List Stp) (ls : List Str), σ' = [some (.ref st), some (.ref p), some (.ref R), some (.ref Ea), y, some (.ref La), z] ∧ Half cs es ls i ps ∧ WR K H H' st scr R ps ∧ H' Ea = some (.lst (es.map V.str)) ∧ H' La = some (.lst (ls.map V.str))) ⟨_, _, _, [], rfl, half0, w4, he4, hL4⟩ (fun i σ' H' _ h => by obtain ⟨_, _, _, _, _, _, h, _⟩ := h; exact SqL.of (h.bt _ _ hne hp)) ?_ ?_
  · rintro i v σ' H5 hi ⟨y, z, ps, ls, rfl, hf, w, he, hL⟩
    rw [List.getElem?_map] at hi
    obtain ⟨k, ek, rfl⟩ := Option.map_eq_some_iff.mp hi
    have il := (List.getElem?_eq_some_iff.mp ek).1
    have pl := hf.len
    refine ⟨st, scr, 16, rfl, w.dr, by decide, many_small (by decide) (by decide), fun c l r0 r1 d3 => ?_⟩
    have w := wr_draw w nR hd d3
    have he : upd H5 st (.lst l) Ea = some (.lst (es.map V.str)) := by rw [upd_ne dEs]; exact he
    have hL : upd H5 st (.lst l) La = some (.lst (ls.map V.str)) := by rw [upd_ne Ls]; exact hL
    generalize upd H5 st (.lst l) = H6 at w he hL ⊢
    clear d3
    have md := hf.mid ek
    -- taken before its look
    refine ⟨fun σ' H' => ∃ ps1, σ' = [some (.ref st), some (.ref p), some (.ref R), some (.ref Ea), some (.str k), some (.ref La), some (.int c)] ∧ Mid ps k 1 (k ∈ es ∨ 1 < c) False (False) ps1 ∧ WR K H H' st scr R ps1 ∧ H' Ea = some (.lst (es.map V.str)) ∧ H' La = some (.lst (ls.map V.str)), ?_, ?_⟩
    · refine ⟨_, .inl (SqL.of he), rfl, flat_strs, ?_⟩
      refine ite2 (fun c1 => ?_) (fun c1 => ?_)
      · have c1 : k ∉ es := by
          have c1 : (!inV (.str k) (es.map V.str)) = true := c1
          rw [inV_str] at c1
          simpa using c1
        refine ite2 (fun c2 => ?_) (fun c2 => ?_)
        · have c2 : 1 < c := of_decide_eq_true c2
          obtain ⟨us, hR, hp1⟩ := w.r
          have ul := pairs_len hp1
          have ml := md.len
          refine ⟨.inl ⟨rfl, _, SqL.of hR⟩, (by show 2 ≤ sizeLine; decide), fun T nT => ⟨R, us, .ref T, rfl, rfl, (same_new nT) _ _ hR, line_lt (by omega), ?_⟩⟩
          obtain ⟨w, kk⟩ := wr_add w nR hd hR hp1 nT (tk k)
          have he := kk _ _ ER he
          have hL := kk _ _ LR hL
          have md := md.take c1
          show (fun H9 => _) (upd (upd H6 T (.tup [.str (tk k).1, .str (tk k).2])) R (.lst (us ++ [.ref T])))
          generalize upd (upd H6 T (.tup [.str (tk k).1, .str (tk k).2])) R (.lst (us ++ [.ref T])) = H7 at w he hL ⊢
          exact ⟨_, rfl, md.to (Nat.le_refl _) ⟨fun _ => .inr c2, fun _ => trivial⟩ Iff.rfl Iff.rfl, w, he, hL⟩
        · have c2 : ¬ 1 < c := of_decide_eq_false (Bool.eq_false_iff.mpr c2)
          exact ⟨_, rfl, md.to (by omega) ⟨.inl, fun h => h.elim id fun h => absurd h c2⟩ Iff.rfl Iff.rfl, w, he, hL⟩
      · have c1 : k ∈ es := by
          have c1 : ¬ (!inV (.str k) (es.map V.str)) = true := c1
          rw [inV_str] at c1
          simpa using c1
        exact ⟨_, rfl, md.to (by omega) ⟨.inl, fun _ => c1⟩ Iff.rfl Iff.rfl, w, he, hL⟩
    clear md w he hL
    rintro σ' H6 ⟨ps1, rfl, md, w, he, hL⟩
    -- freed before its look
    refine ⟨fun σ' H' => ∃ ps1, σ' = [some (.ref st), some (.ref p), some (.ref R), some (.ref Ea), some (.str k), some (.ref La), some (.int c)] ∧ Mid ps k 2 (k ∈ es ∨ 1 < c) False (c = 2) ps1 ∧ WR K H H' st scr R ps1 ∧ H' Ea = some (.lst (es.map V.str)) ∧ H' La = some (.lst (ls.map V.str)), ?_, ?_⟩
    · refine ite2 (fun c1 => ?_) (fun c1 => ?_)
      · have c1 : c = 2 := of_decide_eq_true c1
        obtain ⟨us, hR, hp1⟩ := w.r
        have ul := pairs_len hp1
        have ml := md.len
        refine ⟨.inl ⟨rfl, _, SqL.of hR⟩, (by show 2 ≤ sizeLine; decide), fun T nT => ⟨R, us, .ref T, rfl, rfl, (same_new nT) _ _ hR, line_lt (by omega), ?_⟩⟩
        obtain ⟨w, kk⟩ := wr_add w nR hd hR hp1 nT (fr k)
        have he := kk _ _ ER he
        have hL := kk _ _ LR hL
        have md := md.free id (.inr (by omega))
        show (fun H9 => _) (upd (upd H6 T (.tup [.str (fr k).1, .str (fr k).2])) R (.lst (us ++ [.ref T])))
        generalize upd (upd H6 T (.tup [.str (fr k).1, .str (fr k).2])) R (.lst (us ++ [.ref T])) = H7 at w he hL ⊢
        exact ⟨_, rfl, md.to (Nat.le_refl _) Iff.rfl Iff.rfl ⟨fun _ => c1, fun _ => trivial⟩, w, he, hL⟩
      · have c1 : ¬ c = 2 := of_decide_eq_false (Bool.eq_false_iff.mpr c1)
        exact ⟨_, rfl, md.to (by omega) Iff.rfl Iff.rfl ⟨False.elim, c1⟩, w, he, hL⟩
    clear md w he hL
    rintro σ' H6 ⟨ps1, rfl, md, w, he, hL⟩
    -- looked at
    obtain ⟨us, hR, hp1⟩ := w.r
    have ul := pairs_len hp1
    have ml := md.len
    refine ⟨.inl ⟨rfl, _, SqL.of hR⟩, (by show 2 ≤ sizeLine; decide), fun T nT => ⟨R, us, .ref T, rfl, rfl, (same_new nT) _ _ hR, line_lt (by omega), ?_⟩⟩
    obtain ⟨w, kk⟩ := wr_add w nR hd hR hp1 nT (lo k)
    have he := kk _ _ ER he
    have hL := kk _ _ LR hL
    have md := md.look id
    show (fun H9 => _) (upd (upd H6 T (.tup [.str (lo k).1, .str (lo k).2])) R (.lst (us ++ [.ref T])))
    generalize upd (upd H6 T (.tup [.str (lo k).1, .str (lo k).2])) R (.lst (us ++ [.ref T])) = H7 at w he hL ⊢
    skip
    -- taken behind its look
    refine ⟨fun σ' H' => ∃ ps1, σ' = [some (.ref st), some (.ref p), some (.ref R), some (.ref Ea), some (.str k), some (.ref La), some (.int c)] ∧ Mid ps k 4 (k ∈ es ∨ 1 ≤ c) True (c = 2) ps1 ∧ WR K H H' st scr R ps1 ∧ H' Ea = some (.lst (es.map V.str)) ∧ H' La = some (.lst (ls.map V.str)), ?_, ?_⟩
    · refine ⟨_, .inl (SqL.of he), rfl, flat_strs, ?_⟩
      refine ite2 (fun c1 => ?_) (fun c1 => ?_)
      · have c1 : k ∉ es := by
          have c1 : (!inV (.str k) (es.map V.str)) = true := c1
          rw [inV_str] at c1
          simpa using c1
        refine ite2 (fun c2 => ?_) (fun c2 => ?_)
        · have c2 : c = 1 := of_decide_eq_true c2
          obtain ⟨us, hR, hp1⟩ := w.r
          have ul := pairs_len hp1
          have ml := md.len
          refine ⟨.inl ⟨rfl, _, SqL.of hR⟩, (by show 2 ≤ sizeLine; decide), fun T nT => ⟨R, us, .ref T, rfl, rfl, (same_new nT) _ _ hR, line_lt (by omega), ?_⟩⟩
          obtain ⟨w, kk⟩ := wr_add w nR hd hR hp1 nT (tk k)
          have he := kk _ _ ER he
          have hL := kk _ _ LR hL
          have md := md.take (fun h => h.elim c1 (by omega))
          show (fun H9 => _) (upd (upd H7 T (.tup [.str (tk k).1, .str (tk k).2])) R (.lst (us ++ [.ref T])))
          generalize upd (upd H7 T (.tup [.str (tk k).1, .str (tk k).2])) R (.lst (us ++ [.ref T])) = H8 at w he hL ⊢
          exact ⟨_, rfl, md.to (Nat.le_refl _) ⟨fun _ => .inr (by omega), fun _ => trivial⟩ Iff.rfl Iff.rfl, w, he, hL⟩
        · have c2 : ¬ c = 1 := of_decide_eq_false (Bool.eq_false_iff.mpr c2)
          exact ⟨_, rfl, md.to (by omega) ⟨fun h => h.imp id (by omega), fun h => h.imp id (by omega)⟩ Iff.rfl Iff.rfl, w, he, hL⟩
      · have c1 : k ∈ es := by
          have c1 : ¬ (!inV (.str k) (es.map V.str)) = true := c1
          rw [inV_str] at c1
          simpa using c1
        exact ⟨_, rfl, md.to (by omega) ⟨fun _ => .inl c1, fun _ => .inl c1⟩ Iff.rfl Iff.rfl, w, he, hL⟩
    clear md w he hL
    rintro σ' H6 ⟨ps1, rfl, md, w, he, hL⟩
    -- freed behind its look
    refine ⟨fun σ' H' => ∃ ps1, σ' = [some (.ref st), some (.ref p), some (.ref R), some (.ref Ea), some (.str k), some (.ref La), some (.int c)] ∧ Mid ps k 5 (k ∈ es ∨ 1 ≤ c) True (c = 2 ∨ c = 3) ps1 ∧ WR K H H' st scr R ps1 ∧ H' Ea = some (.lst (es.map V.str)) ∧ H' La = some (.lst (ls.map V.str)), ?_, ?_⟩
    · refine ite2 (fun c1 => ?_) (fun c1 => ?_)
      · have c1 : c = 3 := of_decide_eq_true c1
        obtain ⟨us, hR, hp1⟩ := w.r
        have ul := pairs_len hp1
        have ml := md.len
        refine ⟨.inl ⟨rfl, _, SqL.of hR⟩, (by show 2 ≤ sizeLine; decide), fun T nT => ⟨R, us, .ref T, rfl, rfl, (same_new nT) _ _ hR, line_lt (by omega), ?_⟩⟩
        obtain ⟨w, kk⟩ := wr_add w nR hd hR hp1 nT (fr k)
        have he := kk _ _ ER he
        have hL := kk _ _ LR hL
        have md := md.free (by omega) (.inr (by omega))
        show (fun H9 => _) (upd (upd H6 T (.tup [.str (fr k).1, .str (fr k).2])) R (.lst (us ++ [.ref T])))
        generalize upd (upd H6 T (.tup [.str (fr k).1, .str (fr k).2])) R (.lst (us ++ [.ref T])) = H7 at w he hL ⊢
        exact ⟨_, rfl, md.to (Nat.le_refl _) Iff.rfl Iff.rfl ⟨fun _ => .inr c1, fun _ => trivial⟩, w, he, hL⟩
      · have c1 : ¬ c = 3 := of_decide_eq_false (Bool.eq_false_iff.mpr c1)
        exact ⟨_, rfl, md.to (by omega) Iff.rfl Iff.rfl ⟨.inl, fun h => h.elim id fun h => absurd h c1⟩, w, he, hL⟩
    clear md w he hL
    rintro σ' H6 ⟨ps1, rfl, md, w, he, hL⟩
    -- freed at the end
    refine ite2 (fun c1 => ?_) (fun c1 => ?_)
    · have c1 : c = 4 := of_decide_eq_true c1
      refine ⟨.inl ⟨rfl, _, SqL.of hL⟩, La, ls.map V.str, .str k, rfl, rfl, hL, line_lt (by rw [List.length_map]; omega), ?_⟩
      refine ⟨_, _, ps1, ls ++ [k], rfl, hf.next nd ek md (.inr ⟨rfl, .inr (by omega), by omega⟩) ce, ⟨fun b o n e => ?_, w.dr.at Ls Lc, ?_⟩, by rw [upd_ne LE.symm]; exact he, by rw [upd_same, List.map_append]; rfl⟩
      · rw [upd_ne (ne_of_none e nL0)]; exact w.bt b o n e
      · obtain ⟨us, e, hu⟩ := w.r
        exact ⟨us, by rw [upd_ne LR.symm]; exact e, pairs_bt hu (NT.lst ⟨_, hL⟩) Bt.st⟩
    · exact ⟨_, _, ps1, ls, rfl, hf.next nd ek md (.inl rfl) ce, w, he, hL⟩
  rintro σ' H5 ⟨y, z, ps, ls, rfl, hf, w, he, hL⟩
  rw [List.length_map] at hf
  have hl := hf.len
  have late := hf.late
  rw [List.take_length] at late
  have done := hf.done
  rw [List.take_length] at done
  refine ⟨La, rfl, ⟨_, SqL.of hL⟩, ?_⟩
  refine for_list (K := K) (a := La) (xs := ls.map V.str) (fun i σ' H' => ∃ (y z : Option V) (ps1 : List Stp), σ' = [some (.ref st), some (.ref p), some (.ref R), some (.ref Ea), y, some (.ref La), z] ∧ Good ps1 ∧ (∀ s ∈ ps, s ∈ ps1) ∧ (∀ s ∈ ps1, s ∈ ps ∨ ∃ k ∈ ls.take i, s = fr k) ∧ ps1.length ≤ ps.length + i ∧ WR K H H' st scr R ps1 ∧ H' La = some (.lst (ls.map V.str))) ⟨_, _, ps, rfl, hf.g, fun _ h => h, fun _ h => .inl h, Nat.le_refl _, w, hL⟩ (fun i σ' H' _ h => by obtain ⟨_, _, _, _, _, _, _, _, _, h⟩ := h; exact SqL.of h) ?_ ?_
  · rintro i v σ' H6 hi ⟨y, z, ps1, rfl, g1, o1, n1, l1, w, hL⟩
    rw [List.getElem?_map] at hi
    obtain ⟨k, ek, rfl⟩ := Option.map_eq_some_iff.mp hi
    have il := (List.getElem?_eq_some_iff.mp ek).1
    obtain ⟨us, hR, hp1⟩ := w.r
    have ul := pairs_len hp1
    refine ⟨.inl ⟨rfl, _, SqL.of hR⟩, (by show 2 ≤ sizeLine; decide), fun T nT => ⟨R, us, .ref T, rfl, rfl, (same_new nT) _ _ hR, line_lt (by omega), ?_⟩⟩
    obtain ⟨w, kk⟩ := wr_add w nR hd hR hp1 nT (fr k)
    have hL := kk _ _ LR hL
    obtain ⟨a1, a2, a3⟩ := late.2 k (List.mem_of_getElem? ek)
    refine ⟨_, _, ps1 ++ [fr k], rfl, g1.add (fun h => ?_) (by show ("free" : Str) ∈ deeds; decide +kernel) (fun j e => by cases e; exact o1 _ a2), fun s hs => mem_snoc.mpr (.inl (o1 s hs)), fun s hs => ?_, by rw [List.length_append, List.length_singleton]; omega, w, hL⟩
    · rcases n1 _ h with z | ⟨j, hj, e⟩
      · exact a3 z
      · cases e
        exact not_in_take late.1 ek hj
    · rw [take_snoc ek]
      rcases mem_snoc.mp hs with z | z
      · exact (n1 s z).imp id fun ⟨j, hj, e⟩ => ⟨j, mem_snoc.mpr (.inl hj), e⟩
      · exact .inr ⟨k, mem_snoc.mpr (.inr rfl), z⟩
  rintro σ' H6 ⟨y, z, ps1, rfl, g1, o1, n1, l1, w, hL⟩
  rw [List.length_map] at n1 l1
  rw [List.take_length] at n1
  refine q H6 R ps1 w.bt w.dr nR w.r ⟨g1, fun s hs => ?_, fun k hk => o1 _ (done k hk), by omega, fun hc e => ?_⟩
  · rcases n1 s hs with z | ⟨j, hj, rfl⟩
    · exact hf.sub s z
    · exact (late.2 j hj).1
  · obtain ⟨k, hk⟩ := List.exists_mem_of_ne_nil _ hc
    have := o1 _ (done k hk)
    rw [e] at this
    exact nomatch this
def sp__law_some (K : PySem.W.Frag) : Sp := fun vs H Q _ => ∃ (st scr p : Addr) (sh : Int) (cs : List Str), vs = [.ref st, .ref p, .int sh] ∧ DrAt H st scr ∧ H p = some (.lst (cs.map V.str)) ∧ p ≠ st ∧ cs.length ≤ 60 ∧ 0 < sh ∧ sh ≤ 1000 ∧
  ∀ (H' : Hp) (D : Addr) (zs : List Str), Bt st H H' → DrAt H' st scr → H D = none → H' D = some (.lst (zs.map V.str)) → zs.Sublist cs → Q (.ref D) H'
theorem len__law_some {vs : List V} {H : Hp} {Q : VK} {E : XK} (h : sp__law_some K vs H Q E) : vs.length = 3 := by
  obtain ⟨_, _, _, _, _, rfl, _⟩ := h
  rfl
theorem ok__law_some {f : Addr} {fd : FuncData} {f__law_draw : Addr} {fd__law_draw : FuncData} (F : Fun K "_law_some" "_law_some" s__law_some f fd) (T : Gs K mg t_LETTERS t_LONGEST_NAME a_DEEDS a_RESERVED a_BadName a_BadPlan a_ElseputError a_Plan a_UnknownName) (c__law_draw : Cal P w K mg base CX0 1 "_law_draw" f__law_draw fd__law_draw ["_law_state_here", "_law_many"] (sp__law_draw K)) : FnOk P w K mg base CX0 2 f fd ["_law_state_here", "_law_row", "_law_share"] (sp__law_some K) := by
  refine F.ok sc__law_some (fun vs H Q E h => len__law_some h) (fun cdv A outer s H vs Q E hr h => ?_)
  obtain ⟨st, scr, p, sh, cs, rfl, hd, hp, hne, lc, s0, s1, q⟩ := h
  refine ⟨_, (pss_one (ps_ret (pe_lc (own := [("_law_item", 3)]) (g := gName 3) (by rfl) sc__law_some.nd (pi_list (v_ 1)) (blkOk_by (N := ["_law_state_here", "_law_row", "_law_share", "_law_item"]) (sc := defScope s__law_some) (by decide +kernel)) (fun _ _ _ _ _ => pg_name (i := 3) sc__law_some.nd rfl (Or.inl rfl)) (fun _ _ _ _ _ => pts_one (pt_c op_gtM (pe_call c__law_draw.G (hr.mono (by first | decide | omega)) rfl c__law_draw.m c__law_draw.kp c__law_draw.b .nil pass0 (pa_cons (v_ 0) (pa_cons (v_ 2) pa_nil))) pe_int)) (fun _ _ _ _ _ => (v_ 3))))), ?_⟩
  refine ⟨p, rfl, ⟨_, SqL.of hp⟩, fun D nD => ?_⟩
  have Ds := hd.ne_new nD
  have Dc := hd.ne_scr nD
  refine lc_it (walk_list (xs := cs.map V.str)) (fun i H' => Bt st H H' ∧ DrAt H' st scr ∧ ∃ zs : List Str, H' D = some (.lst (zs.map V.str)) ∧ zs.Sublist (cs.take i)) ⟨Bt.same (same_new nD), hd.new (same_new nD), [], upd_same, List.Sublist.refl _⟩ (fun _ _ _ h => SqL.of (h.1 _ _ hne hp)) ?_ ?_
  · rintro i v H1 H2 hi ⟨b, d, zs, hD, sb⟩ ⟨rfl, hv⟩
    rw [List.getElem?_map] at hv
    obtain ⟨k, ek, rfl⟩ := Option.map_eq_some_iff.mp hv
    rw [List.length_map] at hi
    refine ⟨rfl, ?_⟩
    refine ⟨st, scr, sh, rfl, d, s0, many_small s0 (by omega), fun r l r0 r1 d2 => ?_⟩
    have hD2 : upd H2 st (.lst l) D = some (.lst (zs.map V.str)) := by rw [upd_ne Ds]; exact hD
    have b2 := b.trans (Bt.st (st := st) (o := .lst l))
    generalize upd H2 st (.lst l) = H3 at d2 hD2 b2 ⊢
    refine ite2 (fun c => ?_) (fun c => ?_)
    · refine ⟨_, hD2, line_lt ?_, fun b o n e => ?_, d2.at Ds Dc, zs ++ [k], ?_, ?_⟩
      · have := sb.length_le
        rw [List.length_take] at this
        rw [List.length_map]
        omega
      · rw [upd_ne (ne_of_none e nD)]
        exact b2 b o n e
      · rw [upd_same, List.map_append]
        rfl
      · rw [take_snoc ek]
        exact sb.append (List.Sublist.refl _)
    · refine ⟨b2, d2, zs, hD2, ?_⟩
      rw [take_snoc ek]
      exact sb.trans (List.sublist_append_left _ _)
  · rintro H1 ⟨b, d, zs, hD, sb⟩
    rw [List.length_map, List.take_length] at sb
    exact q H1 D zs b d nD hD sb
theorem Wild.plan {K : PySem.W.Frag} {H : Hp} {x : Addr} {cs lk kp : List Str} {ps : List Stp} {Q : VK} {E : XK} (w : Wild cs ps) (nc : cs ≠ []) (hn : ∀ z ∈ cs, isName z = true) (l : lk.Nodup ∧ ∀ z ∈ lk, z ∈ cs) (k : kp.Nodup ∧ ∀ z ∈ kp, z ∈ cs) (q : ∀ (H' : Hp), Same H H' → PlAt K H' x ps (among ps lk) (among ps kp) → Q .non H') : PlOut K H x ps lk kp Q E := by
  have ok : ∀ z ∈ planNames ps lk kp, z ∈ cs := fun z hz => by
    unfold planNames at hz
    rcases List.mem_append.mp hz with h | h
    · rcases List.mem_append.mp h with h | h
      · obtain ⟨s, hs, rfl⟩ := List.mem_map.mp h
        exact w.sub s hs
      · exact l.2 z h
    · exact k.2 z h
  unfold PlOut
  rw [bad_none fun z hz => hn z (ok z hz)]
  have g : planFits ps lk kp = true := by
    unfold planFits
    rw [w.fits (w.ne nc), keys_fits w l.1 l.2, keys_fits w k.1 k.2]
    rfl
  show if planFits ps lk kp = true then _ else _
  rw [if_pos g]
  exact q
theorem Wild.names {cs lk kp : List Str} {ps : List Stp} (w : Wild cs ps) (hn : ∀ z ∈ cs, isName z = true ∧ z.length ≤ 12) (l : ∀ z ∈ lk, z ∈ cs) (k : ∀ z ∈ kp, z ∈ cs) : ∀ z ∈ planNames ps lk kp, z.length ≤ 1000 ∧ Asc z := fun z hz => by
  have m : z ∈ cs := by
    unfold planNames at hz
    rcases List.mem_append.mp hz with h | h
    · rcases List.mem_append.mp h with h | h
      · obtain ⟨s, hs, rfl⟩ := List.mem_map.mp h
        exact w.sub s hs
      · exact l z h
    · exact k z h
  have := (hn z m).2
  exact ⟨by omega, isName_asc (hn z m).1⟩
theorem stL_same {K : PySem.W.Frag} {H H' : Hp} {R : Addr} {ps : List Stp} (h : StL K H R ps) (s : Same H H') : StL K H' R ps := by
  obtain ⟨vs, h1, h2⟩ := h
  exact ⟨vs, s.seq h1, pairs_same h2 s⟩
theorem stL_bt {K : PySem.W.Frag} {H H' : Hp} {st R : Addr} {ps : List Stp} (h : ∃ us, H R = some (.lst us) ∧ PairsIn K H us ps) (n : R ≠ st) (hs : ∃ l, H st = some (.lst l)) (s : Bt st H H') : ∃ us, H' R = some (.lst us) ∧ PairsIn K H' us ps := by
  obtain ⟨us, h1, h2⟩ := h
  exact ⟨us, s _ _ n h1, pairs_bt h2 (NT.lst hs) s⟩
end
section
variable {P : Program} {w : World} {K : PySem.W.Frag} {mg : Str → Option Value} {base : Heap}
variable {t_LETTERS t_LONGEST_NAME : Tok} {a_DEEDS a_RESERVED a_BadName a_BadPlan a_ElseputError a_Plan a_UnknownName : Addr}
/-! ### _law_same -/
def sp__law_is_int (K : PySem.W.Frag) : Sp := fun vs H Q _ => ∃ i : Int, vs = [.int i] ∧ Q (.bl true) H
theorem len__law_is_int {vs : List V} {H : Hp} {Q : VK} {E : XK} (h : sp__law_is_int K vs H Q E) : vs.length = 1 := by
  obtain ⟨_, rfl, _⟩ := h
  rfl
theorem ok__law_is_int {f : Addr} {fd : FuncData} (F : Fun K "_law_is_int" "_law_is_int" s__law_is_int f fd) (T : Gs K mg t_LETTERS t_LONGEST_NAME a_DEEDS a_RESERVED a_BadName a_BadPlan a_ElseputError a_Plan a_UnknownName) : FnOk P w K mg base CX0 1 f fd ["_law_thing"] (sp__law_is_int K) := by
  refine F.ok sc__law_is_int (fun vs H Q E h => len__law_is_int h) (fun cdv A outer s H vs Q E hr h => ?_)
  obtain ⟨i, rfl, q⟩ := h
  refine ⟨_, (pss_one (ps_ret (pe_andM (pe_callB (isiK K) (by rfl) T.z_isinstance (by decide +kernel) (pa_cons (v_ 0) (pa_cons (pe_bltn (v := .ty "int") (u := .type "int") (by rfl) T.z_int (by decide +kernel) rfl) pa_nil))) (pe_one (pe_notM (pe_callB (isiK K) (by rfl) T.z_isinstance (by decide +kernel) (pa_cons (v_ 0) (pa_cons (pe_bltn (v := .ty "bool") (u := .type "bool") (by rfl) T.z_bool (by decide +kernel) rfl) pa_nil)))))))), ?_⟩
  refine ⟨_, _, _, _, true, rfl, .ty _, .base (.int i), kit_ty (by decide +kernel), ?_⟩
  exact ⟨_, _, _, _, false, rfl, .ty _, .base (.int i), kit_ty (by decide +kernel), q⟩
def Fl (x : V) : Prop := (∃ i : Int, x = .int i) ∨ (∃ z : Str, x = .str z) ∨ (∃ b : Bool, x = .bl b) ∨ x = .non
def SameV (K : PySem.W.Frag) (H : Hp) : Nat → V → V → Prop
  | 0, _, _ => False
  | n + 1, x, y => (x = y ∧ Fl y) ∨ (∃ (p q : Addr) (xs ys : List V), x = .ref p ∧ y = .ref q ∧ SqT K H p xs ∧ SqT K H q ys ∧ xs.length = ys.length ∧ ys.length ≤ 1000 ∧ ∀ (i : Nat) (a b : V), xs[i]? = some a → ys[i]? = some b → SameV K H n a b) ∨
      (∃ (p q : Addr) (xs ys : List V), x = .ref p ∧ y = .ref q ∧ H p = some (.lst xs) ∧ H q = some (.lst ys) ∧ xs.length = ys.length ∧ ys.length ≤ 1000 ∧ ∀ (i : Nat) (a b : V), xs[i]? = some a → ys[i]? = some b → SameV K H n a b) ∨
      ∃ (p q : Addr) (ks ls : List (Key × V)), x = .ref p ∧ y = .ref q ∧ H p = some (.dK ks) ∧ H q = some (.dK ls) ∧ ks.length = ls.length ∧ n ≠ 0 ∧ ∀ (i : Nat) (k : Key) (v : V), ls[i]? = some (k, v) → ∃ u : V, Fl u ∧ valV ls k = some u ∧ valV ks k = some u
theorem same_fl {H : Hp} {n : Nat} {x : V} (h : Fl x) : SameV K H (n + 1) x x := .inl ⟨rfl, h⟩
def spSame (n : Nat) : PySem.W.Frag → Sp := fun K vs H Q _ => ∃ x y : V, vs = [x, y] ∧ SameV K H n x y ∧ Q (.bl true) H
theorem len_same {n : Nat} {vs : List V} {H : Hp} {Q : VK} {E : XK} (h : spSame n K vs H Q E) : vs.length = 2 := by
  obtain ⟨_, _, rfl, _⟩ := h
  rfl
theorem same_step {n k : Nat} {f : Addr} {fd : FuncData} {f__law_is_int : Addr} {fd__law_is_int : FuncData} (F : Fun K "_law_same" "_law_same" s__law_same f fd) (T : Gs K mg t_LETTERS t_LONGEST_NAME a_DEEDS a_RESERVED a_BadName a_BadPlan a_ElseputError a_Plan a_UnknownName)
    (c__law_is_int : Cal P w K mg base CX0 1 "_law_is_int" f__law_is_int fd__law_is_int ["_law_thing"] (sp__law_is_int K)) (c__law_same : Cal P w K mg base CX0 k "_law_same" f fd ["_law_actual", "_law_due_here"] (spSame n K)) (hk : 1 ≤ k) : FnOk P w K mg base CX0 (k + 1) f fd ["_law_actual", "_law_due_here"] (spSame (n + 1) K) := by
  refine F.ok sc__law_same (fun vs H Q E h => len_same h) (fun cdv A outer s H vs Q E hr h => ?_)
  obtain ⟨x, y, rfl, h, q⟩ := h
  refine ⟨_, (pss_cons (ps_if (pt_c op_isM (v_ 1) pe_non) (pss_one (ps_ret (pe_c op_isM (v_ 0) pe_non))) pss_nil) (pss_cons (ps_if (pt_c op_isM (v_ 1) pe_bl) (pss_one (ps_ret (pe_c op_isM (v_ 0) pe_bl))) pss_nil) (pss_cons (ps_if (pt_c op_isM (v_ 1) pe_bl) (pss_one (ps_ret (pe_c op_isM (v_ 0) pe_bl))) pss_nil) (pss_cons (ps_if (pt_t K (pe_callB (isiK K) (by rfl) T.z_isinstance (by decide +kernel) (pa_cons (v_ 1) (pa_cons (pe_bltn (v := .ty "int") (u := .type "int") (by rfl) T.z_int (by decide +kernel) rfl) pa_nil)))) (pss_one (ps_ret (pe_andM (pe_call c__law_is_int.G (hr.mono (by first | decide | omega)) rfl c__law_is_int.m c__law_is_int.kp c__law_is_int.b .nil pass0 (pa_cons (v_ 0) pa_nil)) (pe_one (pe_c (eqK K hr.units) (v_ 0) (v_ 1)))))) pss_nil) (pss_cons (ps_if (pt_t K (pe_callB (isiK K) (by rfl) T.z_isinstance (by decide +kernel) (pa_cons (v_ 1) (pa_cons (pe_bltn (v := .ty "str") (u := .type "str") (by rfl) T.z_str (by decide +kernel) rfl) pa_nil)))) (pss_one (ps_ret (pe_andM (pe_callB (isiK K) (by rfl) T.z_isinstance (by decide +kernel) (pa_cons (v_ 0) (pa_cons (pe_bltn (v := .ty "str") (u := .type "str") (by rfl) T.z_str (by decide +kernel) rfl) pa_nil))) (pe_one (pe_c (eqK K hr.units) (v_ 0) (v_ 1)))))) pss_nil) (pss_cons (ps_if (pt_t K (pe_callB (isiK K) (by rfl) T.z_isinstance (by decide +kernel) (pa_cons (v_ 1) (pa_cons (pe_bltn (v := .ty "dict") (u := .type "dict") (by rfl) T.z_dict (by decide +kernel) rfl) pa_nil)))) (pss_cons (ps_if (PW.pt (pw_or (pt_not (pt_t K (pe_callB (isiK K) (by rfl) T.z_isinstance (by decide +kernel) (pa_cons (v_ 0) (pa_cons (pe_bltn (v := .ty "dict") (u := .type "dict") (by rfl) T.z_dict (by decide +kernel) rfl) pa_nil))))) (pw_or1 (pt_c (neK K hr.units) (pe_callB (lenK K) (by rfl) T.z_len PySem.boot_len (pa_cons (v_ 0) pa_nil)) (pe_callB (lenK K) (by rfl) T.z_len PySem.boot_len (pa_cons (v_ 1) pa_nil)))))) (pss_one (ps_ret pe_bl)) pss_nil) (pss_cons (ps_lock (ps_for PassesOwn.never rfl (pi_keys (v_ 1)) (pg_name (i := 3) sc__law_same.nd rfl (.inl rfl)) (pss_one (ps_if (PW.pt (pw_or (pt_cmp (pc_dnotin (hu_of hr) (v_ 3) (v_ 0))) (pw_or1 (pt_not (pt_t K (pe_call c__law_same.G (hr.mono (by first | decide | omega)) rfl c__law_same.m c__law_same.kp c__law_same.b .nil pass0 (pa_cons (pe_dget (hu_of hr) (v_ 0) (v_ 3) (fun _ _ => rfl)) (pa_cons (pe_dget (hu_of hr) (v_ 1) (v_ 3) (fun _ _ => rfl)) pa_nil)))))))) (pss_one (ps_ret pe_bl)) pss_nil)))) (pss_one (ps_ret pe_bl)))) pss_nil) (pss_cons (ps_if (PW.pt (pw_and (pt_t K (pe_callB (isiK K) (by rfl) T.z_isinstance (by decide +kernel) (pa_cons (v_ 1) (pa_cons (pe_bltn (v := .ty "list") (u := .type "list") (by rfl) T.z_list (by decide +kernel) rfl) pa_nil)))) (pw_and1 (pt_not (pt_t K (pe_callB (isiK K) (by rfl) T.z_isinstance (by decide +kernel) (pa_cons (v_ 0) (pa_cons (pe_bltn (v := .ty "list") (u := .type "list") (by rfl) T.z_list (by decide +kernel) rfl) pa_nil)))))))) (pss_one (ps_ret pe_bl)) pss_nil) (pss_cons (ps_if (PW.pt (pw_and (pt_t K (pe_callB (isiK K) (by rfl) T.z_isinstance (by decide +kernel) (pa_cons (v_ 1) (pa_cons (pe_bltn (v := .ty "tuple") (u := .type "tuple") (by rfl) T.z_tuple (by decide +kernel) rfl) pa_nil)))) (pw_and1 (pt_not (pt_t K (pe_callB (isiK K) (by rfl) T.z_isinstance (by decide +kernel) (pa_cons (v_ 0) (pa_cons (pe_bltn (v := .ty "tuple") (u := .type "tuple") (by rfl) T.z_tuple (by decide +kernel) rfl) pa_nil)))))))) (pss_one (ps_ret pe_bl)) pss_nil) (pss_cons (ps_if (pt_c (neK K hr.units) (pe_callB (lenK K) (by rfl) T.z_len PySem.boot_len (pa_cons (v_ 0) pa_nil)) (pe_callB (lenK K) (by rfl) T.z_len PySem.boot_len (pa_cons (v_ 1) pa_nil))) (pss_one (ps_ret pe_bl)) pss_nil) (pss_cons (ps_for PassesOwn.never rfl (pi_range1 rfl T.z_range (pa_cons (pe_callB (lenK K) (by rfl) T.z_len PySem.boot_len (pa_cons (v_ 1) pa_nil)) pa_nil)) (pg_name (i := 2) sc__law_same.nd rfl (.inl rfl)) (pss_one (ps_if (pt_not (pt_t K (pe_call c__law_same.G (hr.mono (by first | decide | omega)) rfl c__law_same.m c__law_same.kp c__law_same.b .nil pass0 (pa_cons (e_x K (v_ 0) (v_ 2)) (pa_cons (e_x K (v_ 1) (v_ 2)) pa_nil))))) (pss_one (ps_ret pe_bl)) pss_nil))) (pss_one (ps_ret pe_bl)))))))))))), ?_⟩
  rcases h with ⟨rfl, ⟨i, rfl⟩ | ⟨z, rfl⟩ | ⟨c, rfl⟩ | rfl⟩ | ⟨a, b, xs, ys, rfl, rfl, ha, hb, hl, h1, hs⟩ | ⟨a, b, xs, ys, rfl, rfl, ha, hb, hl, h1, hs⟩ | ⟨a, b, ks, ls, rfl, rfl, ha, hb, hl, hn, hs⟩
  · refine ⟨_, _, _, _, true, rfl, .ty _, .base (.int i), kit_ty (by decide +kernel), ?_⟩
    refine ⟨i, rfl, ?_⟩
    have e : decide (i = i) = true := decide_eq_true rfl
    rw [← e] at q
    exact q
  · refine ⟨_, _, _, _, false, rfl, .ty _, .base (.str z), kit_ty (by decide +kernel), ?_⟩
    refine ⟨_, _, _, _, true, rfl, .ty _, .base (.str z), kit_ty (by decide +kernel), ?_⟩
    refine ⟨_, _, _, _, true, rfl, .ty _, .base (.str z), kit_ty (by decide +kernel), ?_⟩
    have e : decide (z = z) = true := decide_eq_true rfl
    rw [← e] at q
    exact q
  · cases c with
    | true => exact q
    | false => exact q
  · exact q
  · have tb := ty_tup hb
    refine ⟨_, _, _, _, false, rfl, .ty _, tb, kit_ty (by decide +kernel), ?_⟩
    refine ⟨_, _, _, _, false, rfl, .ty _, tb, kit_ty (by decide +kernel), ?_⟩
    refine ⟨_, _, _, _, false, rfl, .ty _, tb, kit_ty (by decide +kernel), ?_⟩
    refine ⟨_, _, _, _, false, rfl, .ty _, tb, kit_ty (by decide +kernel), ?_⟩
    refine ⟨_, _, _, _, true, rfl, .ty _, tb, kit_ty (by decide +kernel), ?_⟩
    refine ⟨_, _, _, _, true, rfl, .ty _, ty_tup ha, kit_ty (by decide +kernel), ?_⟩
    refine .inl ⟨_, .inr ha, .inl ⟨_, .inr hb, ?_⟩⟩
    refine ite2 (fun e => ?_) (fun _ => ?_)
    · exact absurd e (by rw [hl]; simp)
    refine .inl ⟨_, .inr hb, _, rfl, by omega, by omega, ?_⟩
    refine for_range (lo := 0) (n := ys.length) (fun i σ' H' => H' = H ∧ ∃ y, σ' = [some (.ref a), some (.ref b), y, none]) ⟨rfl, _, rfl⟩ ?_ ?_
    · rintro i σ' H' hi ⟨rfl, y, rfl⟩
      have ex := List.getElem?_eq_getElem (l := xs) (i := i) (by omega)
      have ey := List.getElem?_eq_getElem (l := ys) hi
      refine ⟨_, .inr ha, xs[i], ?_, _, .inr hb, ys[i], ?_, _, _, rfl, hs i _ _ ex ey, ?_⟩
      · rw [show (0 : Int) + i = ((i : Nat) : Int) by omega]
        exact atI_nat ex
      · rw [show (0 : Int) + i = ((i : Nat) : Int) by omega]
        exact atI_nat ey
      exact ⟨rfl, _, rfl⟩
    · rintro σ' H' ⟨rfl, y, rfl⟩
      exact q
  · have tb : TyX K H (.ref b) (.type "list") := .base (.lst hb)
    refine ⟨_, _, _, _, false, rfl, .ty _, tb, kit_ty (by decide +kernel), ?_⟩
    refine ⟨_, _, _, _, false, rfl, .ty _, tb, kit_ty (by decide +kernel), ?_⟩
    refine ⟨_, _, _, _, false, rfl, .ty _, tb, kit_ty (by decide +kernel), ?_⟩
    refine ⟨_, _, _, _, true, rfl, .ty _, tb, kit_ty (by decide +kernel), ?_⟩
    refine ⟨_, _, _, _, true, rfl, .ty _, .base (.lst ha), kit_ty (by decide +kernel), ?_⟩
    refine ⟨_, _, _, _, false, rfl, .ty _, tb, kit_ty (by decide +kernel), ?_⟩
    refine .inl ⟨_, .inl (SqL.of ha), .inl ⟨_, .inl (SqL.of hb), ?_⟩⟩
    refine ite2 (fun e => ?_) (fun _ => ?_)
    · exact absurd e (by rw [hl]; simp)
    refine .inl ⟨_, .inl (SqL.of hb), _, rfl, by omega, by omega, ?_⟩
    refine for_range (lo := 0) (n := ys.length) (fun i σ' H' => H' = H ∧ ∃ y, σ' = [some (.ref a), some (.ref b), y, none]) ⟨rfl, _, rfl⟩ ?_ ?_
    · rintro i σ' H' hi ⟨rfl, y, rfl⟩
      have ex := List.getElem?_eq_getElem (l := xs) (i := i) (by omega)
      have ey := List.getElem?_eq_getElem (l := ys) hi
      refine ⟨_, .inl (SqL.of ha), xs[i], ?_, _, .inl (SqL.of hb), ys[i], ?_, _, _, rfl, hs i _ _ ex ey, ?_⟩
      · rw [show (0 : Int) + i = ((i : Nat) : Int) by omega]
        exact atI_nat ex
      · rw [show (0 : Int) + i = ((i : Nat) : Int) by omega]
        exact atI_nat ey
      exact ⟨rfl, _, rfl⟩
    · rintro σ' H' ⟨rfl, y, rfl⟩
      exact q
  · have tb : TyX K H (.ref b) (.type "dict") := .base (.dK hb)
    refine ⟨_, _, _, _, false, rfl, .ty _, tb, kit_ty (by decide +kernel), ?_⟩
    refine ⟨_, _, _, _, false, rfl, .ty _, tb, kit_ty (by decide +kernel), ?_⟩
    refine ⟨_, _, _, _, true, rfl, .ty _, tb, kit_ty (by decide +kernel), ?_⟩
    refine ⟨_, _, _, _, true, rfl, .ty _, .base (.dK ha), kit_ty (by decide +kernel), ?_⟩
    refine .inr ⟨_, ha, .inr ⟨_, hb, ?_⟩⟩
    refine ite2 (fun e => absurd e (by rw [hl]; simp)) (fun _ => ?_)
    refine ⟨b, .dK ls, hb, True.intro, fun od => ?_⟩
    refine ⟨b, od, rfl, .inl ⟨ls, upd_same, ?_⟩⟩
    have rb : Rd (upd H b (.frz od (.dK ls))) b (.dK ls) := .inr ⟨od, upd_same⟩
    have ra : ∃ ks', ks' = ks ∧ Rd (upd H b (.frz od (.dK ls))) a (.dK ks') := by
      by_cases e : a = b
      · rw [e, hb] at ha
        cases ha
        exact ⟨_, rfl, e ▸ rb⟩
      · exact ⟨ks, rfl, .inl (by rw [upd_ne e]; exact ha)⟩
    obtain ⟨_, rfl, ra⟩ := ra
    refine for_it walk_keys (fun i σ' H' => H' = upd H b (.frz od (.dK ls)) ∧ ∃ y, σ' = [some (.ref a), some (.ref b), none, y]) ⟨rfl, _, rfl⟩ (fun i σ' H' _ h => by rw [h.1]; exact upd_same) ?_ ?_
    · rintro i x σ' H2 H3 hi ⟨rfl, y, rfl⟩ ⟨rfl, k, v, hk, rfl⟩
      obtain ⟨m, hm, h1, h2⟩ := hs i k v hk
      have ga : DGet (upd H b (.frz od (.dK ls))) a (kV k) (some m) := .inl ⟨_, k, ra, rfl, h2.symm⟩
      have gb : DGet (upd H b (.frz od (.dK ls))) b (kV k) (some m) := .inl ⟨_, k, rb, rfl, h1.symm⟩
      refine ⟨a, _, rfl, ga, _, rfl, ?_⟩
      refine ⟨a, _, rfl, ga, b, _, rfl, gb, _, _, rfl, ?_, ?_⟩
      · cases n with
        | zero => exact absurd rfl hn
        | succ n => exact same_fl hm
      · exact ⟨rfl, _, rfl⟩
    · rintro σ' H2 ⟨rfl, y, rfl⟩
      refine ⟨upd_same, ?_⟩
      rw [upd_upd, upd_id hb]
      exact q
theorem same_all {f : Addr} {fd : FuncData} {f__law_is_int : Addr} {fd__law_is_int : FuncData} (F : Fun K "_law_same" "_law_same" s__law_same f fd) (T : Gs K mg t_LETTERS t_LONGEST_NAME a_DEEDS a_RESERVED a_BadName a_BadPlan a_ElseputError a_Plan a_UnknownName)
    (c__law_is_int : Cal P w K mg base CX0 1 "_law_is_int" f__law_is_int fd__law_is_int ["_law_thing"] (sp__law_is_int K)) (b : Binds K fd ["_law_actual", "_law_due_here"] []) (kp : PySem.W.keepIn K (.ref f) = true) (m : mg "_law_same" = some (.ref f)) :
    ∀ n : Nat, FnOk P w K mg base CX0 (n + 2) f fd ["_law_actual", "_law_due_here"] (spSame n K)
  | 0 => ⟨fun _ _ _ _ h => len_same h, by
    intro A outer s H args us vs Q E _ _ _ _ h
    obtain ⟨_, _, _, h, _⟩ := h
    exact False.elim h⟩
  | n + 1 => same_step F T c__law_is_int ⟨same_all F T c__law_is_int b kp m n, b, kp, m⟩ (by omega)
def sp__law_same : PySem.W.Frag → Sp := spSame 24
theorem ok__law_same {f : Addr} {fd : FuncData} {f__law_is_int : Addr} {fd__law_is_int : FuncData} (F : Fun K "_law_same" "_law_same" s__law_same f fd) (T : Gs K mg t_LETTERS t_LONGEST_NAME a_DEEDS a_RESERVED a_BadName a_BadPlan a_ElseputError a_Plan a_UnknownName)
    (c__law_is_int : Cal P w K mg base CX0 1 "_law_is_int" f__law_is_int fd__law_is_int ["_law_thing"] (sp__law_is_int K)) (b : Binds K fd ["_law_actual", "_law_due_here"] []) (kp : PySem.W.keepIn K (.ref f) = true) (m : mg "_law_same" = some (.ref f)) :
    FnOk P w K mg base CX0 26 f fd ["_law_actual", "_law_due_here"] (sp__law_same K) := same_all F T c__law_is_int b kp m 24
theorem same_int {H : Hp} {n : Nat} (i : Int) : SameV K H (n + 1) (.int i) (.int i) := same_fl (.inl ⟨i, rfl⟩)
theorem same_str {H : Hp} {n : Nat} (z : Str) : SameV K H (n + 1) (.str z) (.str z) := same_fl (.inr (.inl ⟨z, rfl⟩))
theorem same_bl {H : Hp} {n : Nat} (b : Bool) : SameV K H (n + 1) (.bl b) (.bl b) := same_fl (.inr (.inr (.inl ⟨b, rfl⟩)))
theorem same_tupN {H : Hp} {t u : Addr} {xs ys : List V} {n : Nat} (h1 : SqT K H t xs) (h2 : SqT K H u ys) (hl : xs.length = ys.length) (h4 : ys.length ≤ 1000) (h : ∀ (i : Nat) (a b : V), xs[i]? = some a → ys[i]? = some b → SameV K H n a b) : SameV K H (n + 1) (.ref t) (.ref u) :=
  .inr (.inl ⟨t, u, _, _, rfl, rfl, h1, h2, hl, h4, h⟩)
theorem same_two {H : Hp} {t u : Addr} {w : Str} {x y : V} {m : Nat} (h1 : SqT K H t [.str w, x]) (h2 : SqT K H u [.str w, y]) (h : SameV K H (m + 1) x y) : SameV K H (m + 2) (.ref t) (.ref u) := by
  refine same_tupN h1 h2 rfl (by show 2 ≤ 1000; decide) fun i a b ha hb => ?_
  match i, ha, hb with
  | 0, ha, hb => cases ha; cases hb; exact same_str _
  | 1, ha, hb => cases ha; cases hb; exact h
theorem same_strs {H : Hp} {t u : Addr} {zs : List Str} {n : Nat} (h1 : SqT K H t (zs.map V.str)) (h2 : SqT K H u (zs.map V.str)) (hl : zs.length ≤ 1000) : SameV K H (n + 2) (.ref t) (.ref u) := by
  refine same_tupN h1 h2 rfl (by rw [List.length_map]; exact hl) fun i a b ha hb => ?_
  rw [ha] at hb
  cases hb
  rw [List.getElem?_map] at ha
  obtain ⟨z, hz, rfl⟩ := Option.map_eq_some_iff.mp ha
  exact same_str z
end
section
variable {P : Program} {w : World} {K : PySem.W.Frag} {mg : Str → Option Value} {base : Heap}
variable {t_LETTERS t_LONGEST_NAME : Tok} {a_DEEDS a_RESERVED a_BadName a_BadPlan a_ElseputError a_Plan a_UnknownName : Addr}
/-! ### strings that are no names -/
theorem resv_asc : ∀ z ∈ (["always", "never", "and", "or", "not", "when", "add", "set", "change", "tell", "refuse", "take", "look", "free", "lock", "keep", "keys", "fields"] : List Str), inV (.str z) resv = true ∧ z.length ≤ 12 ∧ ∀ c ∈ z.cps.toList, c < 16 ^ 8 := by decide +kernel
theorem not_name_resv {z : Str} (h : inV (.str z) resv = true) : isName z = false := by
  cases e : isName z with
  | false => rfl
  | true =>
    have := (isName_mem e).2.2.2
    rw [h] at this
    cases this
theorem flat_rep {α : Type} (xs : List α) : ∀ n : Nat, (List.replicate n xs).flatten.length = n * xs.length
  | 0 => by simp
  | n + 1 => by
    rw [List.replicate_succ, List.flatten_cons, List.length_append, flat_rep xs n, Nat.succ_mul]
    omega
abbrev strange : List Str := [" ", "A", "Z", "0", "9", "_", "-", "`", "{", ":"]
theorem strange_bad : ∀ z ∈ strange, z.length = 1 ∧ (∀ c ∈ z.cps.toList, c ∉ letters.cps.toList ∧ c < 16 ^ 8) := by decide +kernel
def sp__law_bad_name (K : PySem.W.Frag) : Sp := fun vs H Q _ => ∃ (st scr : Addr) (z : Str), vs = [.ref st, .str z] ∧ DrAt H st scr ∧ isName z = true ∧
  ∀ (H' : Hp) (w : Str), Bt st H H' → DrAt H' st scr → isName w = false → w.length ≤ 30 → Asc w → Q (.str w) H'
theorem len__law_bad_name {vs : List V} {H : Hp} {Q : VK} {E : XK} (h : sp__law_bad_name K vs H Q E) : vs.length = 2 := by
  obtain ⟨_, _, _, rfl, _⟩ := h
  rfl
theorem ok__law_bad_name {f : Addr} {fd : FuncData} {f__law_draw : Addr} {fd__law_draw : FuncData} {f__law_pick : Addr} {fd__law_pick : FuncData} (F : Fun K "_law_bad_name" "_law_bad_name" s__law_bad_name f fd) (T : Gs K mg t_LETTERS t_LONGEST_NAME a_DEEDS a_RESERVED a_BadName a_BadPlan a_ElseputError a_Plan a_UnknownName) (c__law_draw : Cal P w K mg base CX0 1 "_law_draw" f__law_draw fd__law_draw ["_law_state_here", "_law_many"] (sp__law_draw K)) (c__law_pick : Cal P w K mg base CX0 2 "_law_pick" f__law_pick fd__law_pick ["_law_state_here", "_law_row"] (sp__law_pick K)) : FnOk P w K mg base CX0 3 f fd ["_law_state_here", "_law_good"] (sp__law_bad_name K) := by
  refine F.ok sc__law_bad_name (fun vs H Q E h => len__law_bad_name h) (fun cdv A outer s H vs Q E hr h => ?_)
  obtain ⟨st, scr, z, rfl, hd, hz, q⟩ := h
  obtain ⟨zm, z1, z12, zr⟩ := isName_mem hz
  have za := isName_asc hz
  refine ⟨_, (pss_cons (ps_set (i := 2) sc__law_bad_name.nd rfl (.inl rfl) (pe_call c__law_draw.G (hr.mono (by first | decide | omega)) rfl c__law_draw.m c__law_draw.kp c__law_draw.b .nil pass0 (pa_cons (v_ 0) (pa_cons pe_int pa_nil)))) (pss_cons (ps_set (i := 3) sc__law_bad_name.nd rfl (.inl rfl) (pe_lst (pa_cons pe_str (pa_cons pe_str (pa_cons pe_str (pa_cons pe_str (pa_cons pe_str (pa_cons pe_str (pa_cons pe_str (pa_cons pe_str (pa_cons pe_str (pa_cons pe_str (pa_cons pe_str (pa_cons pe_str pa_nil)))))))))))))) (pss_cons (ps_set (i := 3) sc__law_bad_name.nd rfl (.inl rfl) (pe_op (addK K) (v_ 3) (pe_lst (pa_cons pe_str (pa_cons pe_str (pa_cons pe_str (pa_cons pe_str (pa_cons pe_str (pa_cons pe_str pa_nil))))))))) (pss_cons (ps_if (pt_c (eqK K hr.units) (v_ 2) pe_int) (pss_one (ps_ret (pe_call c__law_pick.G (hr.mono (by first | decide | omega)) rfl c__law_pick.m c__law_pick.kp c__law_pick.b .nil pass0 (pa_cons (v_ 0) (pa_cons (v_ 3) pa_nil))))) pss_nil) (pss_cons (ps_if (pt_c (eqK K hr.units) (v_ 2) pe_int) (pss_one (ps_ret (pe_slice (slK K) (pe_op op_mulSM (v_ 1) pe_int) po_none (po_some pe_int)))) pss_nil) (pss_cons (ps_if (pt_c (eqK K hr.units) (v_ 2) pe_int) (pss_one (ps_ret pe_str)) pss_nil) (pss_cons (ps_set (i := 4) sc__law_bad_name.nd rfl (.inl rfl) (pe_call c__law_draw.G (hr.mono (by first | decide | omega)) rfl c__law_draw.m c__law_draw.kp c__law_draw.b .nil pass0 (pa_cons (v_ 0) (pa_cons (pe_op (addK K) (pe_callB (lenK K) (by rfl) T.z_len PySem.boot_len (pa_cons (v_ 1) pa_nil)) pe_int) pa_nil)))) (pss_one (ps_ret (pe_op (addK K) (pe_op (addK K) (pe_slice (slK K) (v_ 1) po_none (po_some (v_ 4))) (pe_call c__law_pick.G (hr.mono (by first | decide | omega)) rfl c__law_pick.m c__law_pick.kp c__law_pick.b .nil pass0 (pa_cons (v_ 0) (pa_cons (pe_lst (pa_cons pe_str (pa_cons pe_str (pa_cons pe_str (pa_cons pe_str (pa_cons pe_str (pa_cons pe_str (pa_cons pe_str (pa_cons pe_str (pa_cons pe_str (pa_cons pe_str pa_nil))))))))))) pa_nil)))) (pe_slice (slK K) (v_ 1) (po_some (v_ 4)) po_none))))))))))), ?_⟩
  refine ⟨st, scr, _, rfl, hd, by decide, many_small (by decide) (by decide), fun kd l0 k0 k1 hd0 => ?_⟩
  have b0 : Bt st H (upd H st (.lst l0)) := Bt.st
  generalize upd H st (.lst l0) = H0 at hd0 b0 ⊢
  refine ⟨(by show 12 ≤ sizeLine; decide), fun o no => ?_⟩
  refine ⟨(by show 6 ≤ sizeLine; decide), fun p np => ?_⟩
  have hpo := new_ne np
  refine .inl ⟨_, _, (by rw [upd_ne hpo.symm, upd_same]), upd_same, (by show 18 ≤ sizeLine; decide), fun rv nrv => ?_⟩
  have sm := ((same_new (o := .lst [.str "always", .str "never", .str "and", .str "or", .str "not", .str "when", .str "add", .str "set", .str "change", .str "tell", .str "refuse", .str "take"]) no).trans (same_new (o := .lst [.str "look", .str "free", .str "lock", .str "keep", .str "keys", .str "fields"]) np)).trans (same_new (o := .lst resv) nrv)
  generalize hH5 : upd _ rv _ = H5
  have hrv : H5 rv = some (.lst resv) := by rw [← hH5]; exact upd_same
  have hd5 : DrAt H5 st scr := by rw [← hH5]; exact hd0.new sm
  have b5 : Bt st H H5 := by rw [← hH5]; exact b0.trans (Bt.same (st := st) sm)
  have rvst : rv ≠ st := hd0.ne_new (free_new (free_new nrv))
  clear hH5
  refine ite2 (fun e => ?_) (fun e => ?_)
  · refine ⟨st, scr, _, rfl, hd5, .inr ⟨rv, _, rfl, hrv, rvst, by decide, by decide, fun x l hx hd2 => ?_⟩⟩
    rw [resv_strs] at hx
    obtain ⟨w, hw, rfl⟩ := List.mem_map.mp hx
    obtain ⟨w1, w2, w3⟩ := resv_asc w hw
    exact q _ w (b5.trans Bt.st) hd2 (not_name_resv w1) (by omega) w3
  refine ite2 (fun e => ?_) (fun e => ?_)
  · refine ⟨by decide, by decide, by omega, ?_⟩
    have e13 : (List.replicate 13 z.cps.toList).flatten.length = 13 * z.length := by rw [flat_rep, len_cps]
    have lr : (repS z 13).length = 13 * z.length := by
      rw [← len_cps, repS_cps]
      exact e13
    have e1 := cutS_take (repS z 13) (k := 13)
    refine ⟨_, rfl, line_of (by omega), ?_⟩
    have lw : (cutS (repS z 13) none (some ((13 : Nat) : Int))).length = 13 := by
      rw [← len_cps, e1, List.length_take, len_cps, lr]
      omega
    refine q H5 _ b5 hd5 ?_ (by show (cutS (repS z 13) none (some ((13 : Nat) : Int))).length ≤ 30; omega) ?_
    · show isName (cutS (repS z 13) none (some ((13 : Nat) : Int))) = false
      cases e : isName (cutS (repS z 13) none (some ((13 : Nat) : Int))) with
      | false => rfl
      | true =>
        have := (isName_mem e).2.2.1
        omega
    · intro c hc
      have hc : c ∈ (cutS (repS z 13) none (some ((13 : Nat) : Int))).cps.toList := hc
      rw [e1] at hc
      have hc := List.mem_of_mem_take hc
      rw [repS_cps] at hc
      obtain ⟨l, hl, hc⟩ := List.mem_flatten.mp hc
      rw [List.eq_of_mem_replicate hl] at hc
      exact za c hc
  refine ite2 (fun e => ?_) (fun e => ?_)
  · exact q H5 _ b5 hd5 (by decide +kernel) (by decide) (fun c hc => nomatch hc)
  refine ⟨line_of (by omega), ?_⟩
  refine ⟨st, scr, _, rfl, hd5, by omega, many_small (by omega) (by omega), fun sp l s0 s1 hd1 => ?_⟩
  have b6 : Bt st H (upd H5 st (.lst l)) := b5.trans Bt.st
  generalize upd H5 st (.lst l) = H6 at hd1 b6 ⊢
  have e1 := cutS_take z (k := sp.toNat)
  have e2 := cutS_drop z (k := sp.toNat)
  rw [show ((sp.toNat : Nat) : Int) = sp by omega] at e1 e2
  have l1 := cutS_length z none (some sp)
  have l2 := cutS_length z (some sp) none
  refine ⟨_, rfl, line_of (by omega), ?_⟩
  refine ⟨(by show 10 ≤ sizeLine; decide), fun u nu => ?_⟩
  have su := same_new (o := .lst (strange.map V.str)) nu
  have hu : (upd H6 u (.lst (strange.map V.str))) u = some (.lst (strange.map V.str)) := upd_same
  have ust : u ≠ st := hd1.ne_new nu
  refine ⟨st, scr, _, rfl, hd1.new su, .inr ⟨u, _, rfl, hu, ust, by decide, by decide, fun x l hx hd2 => ?_⟩⟩
  obtain ⟨w, hw, rfl⟩ := List.mem_map.mp hx
  obtain ⟨w1, w2⟩ := strange_bad w hw
  refine ⟨line_of (by omega), _, rfl, line_of (by omega), line_of (by rw [len_add]; omega), ?_⟩
  refine q _ _ ((b6.trans (Bt.same (st := st) su)).trans Bt.st) hd2 ?_ (by rw [len_add, len_add]; omega) ?_
  · cases e : isName (cutS z none (some sp) ++ w ++ cutS z (some sp) none) with
    | false => rfl
    | true =>
      obtain ⟨c, hc⟩ : ∃ c, c ∈ w.cps.toList := by
        cases hw : w.cps.toList with
        | nil =>
          have := len_cps w
          rw [hw, w1] at this
          cases this
        | cons c r => exact ⟨c, List.mem_cons_self⟩
      refine absurd ((isName_mem e).1 c ?_) (w2 c hc).1
      rw [cps_add, cps_add]
      exact List.mem_append_left _ (List.mem_append_right _ hc)
  · intro d hd
    rw [cps_add, cps_add, e1, e2] at hd
    rcases List.mem_append.mp hd with h | h
    · rcases List.mem_append.mp h with h | h
      · exact za d (List.mem_of_mem_take h)
      · exact (w2 d h).2
    · exact za d (List.mem_of_mem_drop h)
end
section
variable {P : Program} {w : World} {K : PySem.W.Frag} {mg : Str → Option Value} {base : Heap}
variable {t_LETTERS t_LONGEST_NAME : Tok} {a_DEEDS a_RESERVED a_BadName a_BadPlan a_ElseputError a_Plan a_UnknownName : Addr}
/-! ### how long a plan is, and its turns -/
def sp_Plan___len__ (K : PySem.W.Frag) : Sp := fun vs H Q _ => ∃ (a : Addr) (ps : List Stp) (lk kp : List Str), vs = [.ref a] ∧ PlAt K H a ps lk kp ∧ Q (.int (ps.length : Int)) H
theorem len_Plan___len__ {vs : List V} {H : Hp} {Q : VK} {E : XK} (h : sp_Plan___len__ K vs H Q E) : vs.length = 1 := by
  obtain ⟨_, _, _, _, rfl, _⟩ := h
  rfl
theorem ok_Plan___len__ {f : Addr} {fd : FuncData} (F : Fun K "__len__" "Plan.__len__" s_Plan___len__ f fd) (T : Gs K mg t_LETTERS t_LONGEST_NAME a_DEEDS a_RESERVED a_BadName a_BadPlan a_ElseputError a_Plan a_UnknownName) : FnOk P w K mg base CX0 1 f fd ["self"] (sp_Plan___len__ K) := by
  refine F.ok sc_Plan___len__ (fun vs H Q E h => len_Plan___len__ h) (fun cdv A outer s H vs Q E hr h => ?_)
  obtain ⟨a, ps, lk, kp, rfl, ⟨C, dx, t, l, k, hC, ha, ⟨vs, ht, hp⟩, _⟩, q⟩ := h
  cases hC.symm.trans T.n_Plan
  refine ⟨_, (pss_one (ps_ret (pe_callB (lenK K) (by rfl) T.z_len PySem.boot_len (pa_cons (e_f K (v_ 0)) pa_nil)))), ?_⟩
  refine ⟨a, a_Plan, dx, _, _, rfl, ha, T.cl_Plan, T.na_Plan_steps, rfl, ?_⟩
  refine .inl ⟨_, .inr ht, ?_⟩
  rw [pairs_len hp]
  exact q
def sp_Plan___iter__ (K : PySem.W.Frag) : Nat → Sp := fun n vs H Q _ => ∃ (a : Addr) (ps : List Stp) (lk kp : List Str), vs = [.ref a] ∧ PlAt K H a ps lk kp ∧ ∀ t us it, SqT K H t us → PairsIn K H us ps → H it = none → n ≤ it → Q (.ref it) (upd H it (TitO t it))
theorem len_Plan___iter__ {n : Nat} {vs : List V} {H : Hp} {Q : VK} {E : XK} (h : sp_Plan___iter__ K n vs H Q E) : vs.length = 1 := by
  obtain ⟨_, _, _, _, rfl, _⟩ := h
  rfl
theorem ok_Plan___iter__ {f : Addr} {fd : FuncData} (F : Fun K "__iter__" "Plan.__iter__" s_Plan___iter__ f fd) (B : Binds K fd ["self"] []) (T : Gs K mg t_LETTERS t_LONGEST_NAME a_DEEDS a_RESERVED a_BadName a_BadPlan a_ElseputError a_Plan a_UnknownName) : FnS P w K mg base CX0 1 f (sp_Plan___iter__ K) := by
  refine fun_okS F sc_Plan___iter__ B (fun n vs H Q E h => len_Plan___iter__ h) (fun cdv A outer s H vs Q E hr h => ?_)
  obtain ⟨a, ps, lk, kp, rfl, ⟨C, dx, t, l, k, hC, ha, ⟨vs, ht, hp⟩, _⟩, q⟩ := h
  cases hC.symm.trans T.n_Plan
  refine ⟨_, (pss_one (ps_ret (pe_callB (iterTK K s.heap.objs.size) (by rfl) T.z_iter (by decide +kernel) (pa_cons (e_f K (v_ 0)) pa_nil)))), ?_⟩
  refine ⟨a, a_Plan, dx, _, _, rfl, ha, T.cl_Plan, T.na_Plan_steps, rfl, ?_⟩
  exact ⟨t, _, rfl, ht, fun it n1 n2 => q t vs it ht hp n1 n2⟩
/-! ### what trying to make a plan tells -/
def Kinds (H : Hp) (u : Addr) (a b : Bool) : Prop := H u = some (.tup [.bl a, .bl b, .bl false, .bl true])
def Made (K : PySem.W.Frag) (H : Hp) (t : Addr) (ps : List Stp) (l k : List Str) : Prop := ∃ u v w : Addr, H t = some (.tup [.str "made", .ref u, .ref v, .ref w]) ∧ StT K H u ps ∧ TxT K H v l ∧ TxT K H w k
def TryAt (K : PySem.W.Frag) (H : Hp) (t : Addr) (ps : List Stp) (lk kp : List Str) : Prop := match bad1 (planNames ps lk kp) with
  | some z => ∃ u : Addr, H t = some (.tup [.str "refused", .ref u, .str z]) ∧ Kinds H u true false
  | none => if planFits ps lk kp = true then Made K H t ps (among ps lk) (among ps kp) else ∃ u : Addr, H t = some (.tup [.str "refused", .ref u, .non]) ∧ Kinds H u false true
theorem try_bad {K : PySem.W.Frag} {H : Hp} {t u : Addr} {ps : List Stp} {lk kp : List Str} {z : Str} (hb : bad1 (planNames ps lk kp) = some z) (h1 : H t = some (.tup [.str "refused", .ref u, .str z])) (h2 : Kinds H u true false) : TryAt K H t ps lk kp := by
  unfold TryAt
  rw [hb]
  exact ⟨u, h1, h2⟩
theorem try_made {K : PySem.W.Frag} {H : Hp} {t : Addr} {ps : List Stp} {lk kp : List Str} (hb : bad1 (planNames ps lk kp) = none) (hn : planFits ps lk kp = true) (h : Made K H t ps (among ps lk) (among ps kp)) : TryAt K H t ps lk kp := by
  unfold TryAt
  rw [hb]
  show if planFits ps lk kp = true then _ else _
  rw [if_pos hn]
  exact h
theorem try_not {K : PySem.W.Frag} {H : Hp} {t u : Addr} {ps : List Stp} {lk kp : List Str} (hb : bad1 (planNames ps lk kp) = none) (hn : ¬ planFits ps lk kp = true) (h1 : H t = some (.tup [.str "refused", .ref u, .non])) (h2 : Kinds H u false true) : TryAt K H t ps lk kp := by
  unfold TryAt
  rw [hb]
  show if planFits ps lk kp = true then _ else _
  rw [if_neg hn]
  exact ⟨u, h1, h2⟩
def sp__law_try (K : PySem.W.Frag) : Sp := fun vs H Q _ => ∃ (p l k : Addr) (ps : List Stp) (lk kp : List Str), vs = [.ref p, .ref l, .ref k] ∧ StL K H p ps ∧ TxS K H l lk ∧ TxS K H k kp ∧ ps.length < 64 ∧ lk.length < 64 ∧ kp.length < 64 ∧ (∀ z ∈ planNames ps lk kp, z.length ≤ 1000 ∧ Asc z) ∧
  ∀ (H' : Hp) (t : Addr), Same H H' → TryAt K H' t ps lk kp → Q (.ref t) H'
theorem len__law_try {vs : List V} {H : Hp} {Q : VK} {E : XK} (h : sp__law_try K vs H Q E) : vs.length = 3 := by
  obtain ⟨_, _, _, _, _, _, rfl, _⟩ := h
  rfl
theorem ok__law_try {f : Addr} {fd : FuncData} {f_Plan___init__ : Addr} {fd_Plan___init__ : FuncData} {e1_Plan___init__ e2_Plan___init__ : Addr} (F : Fun K "_law_try" "_law_try" s__law_try f fd) (T : Gs K mg t_LETTERS t_LONGEST_NAME a_DEEDS a_RESERVED a_BadName a_BadPlan a_ElseputError a_Plan a_UnknownName) (c_Plan___init__ : CalK P w K mg base (L2.CX P w) 4 "Plan" a_Plan f_Plan___init__ fd_Plan___init__ ["self", "steps", "locked", "kept"] 2 "locked" "kept" e1_Plan___init__ e2_Plan___init__ (sp_Plan___init__ K)) : FnOk P w K mg base CX0 6 f fd ["_law_steps", "_law_row_keys", "_law_held_keys"] (sp__law_try K) := by
  refine F.ok sc__law_try (fun vs H Q E h => len__law_try h) (fun cdv A outer s H vs Q E hr h => ?_)
  obtain ⟨p, l, k, ps, lk, kp, rfl, hp, hl, hk, few, fl, fk, hz, q⟩ := h
  refine ⟨_, (pss_cons (ps_try_as (i := 3) rfl rfl sc__law_try.nd rfl rfl ⟨rfl, by decide +kernel, .inl T.g_ElseputError⟩ takes0 (fun W pn xe tk po => (pss_one (ps_set (i := 4) sc__law_try.nd rfl (.inl rfl) (pe_mkAllS c_Plan___init__ (hr.mono (by first | decide | omega)) rfl (fun σ => passAt tk σ) (pa_cons (v_ 0) pa_nil) (pk_cons (v_ 1) (pk_cons (v_ 2) pk_nil)))))) (fun ea oe ecls ed epn hz hf => (pss_cons (ps_set (i := 5) sc__law_try.nd rfl (.inl rfl) pe_non) (Evl.pss_cut (ps_if (pt_t K (pe_callB (call_isN hz hf) (by rfl) T.z_isinstance (by decide +kernel) (pa_cons (v_ 3) (pa_cons (pe_glob (v := .ref a_BadName) rfl T.g_BadName rfl) pa_nil)))) (pss_one (ps_set (i := 5) sc__law_try.nd rfl (.inl rfl) (pe_xf T.x_BadName.xf (T.x_BadName.no _ (by decide)) hz hf (v_ 3)))) pss_nil) (pss_cons (ps_set (i := 6) sc__law_try.nd rfl (.inl rfl) (pe_tup (pa_cons (pe_callB (call_isN hz hf) (by rfl) T.z_isinstance (by decide +kernel) (pa_cons (v_ 3) (pa_cons (pe_glob (v := .ref a_BadName) rfl T.g_BadName rfl) pa_nil))) (pa_cons (pe_callB (call_isN hz hf) (by rfl) T.z_isinstance (by decide +kernel) (pa_cons (v_ 3) (pa_cons (pe_glob (v := .ref a_BadPlan) rfl T.g_BadPlan rfl) pa_nil))) (pa_cons (pe_callB (call_isN hz hf) (by rfl) T.z_isinstance (by decide +kernel) (pa_cons (v_ 3) (pa_cons (pe_glob (v := .ref a_UnknownName) rfl T.g_UnknownName rfl) pa_nil))) (pa_cons (pe_callB (call_isN hz hf) (by rfl) T.z_isinstance (by decide +kernel) (pa_cons (v_ 3) (pa_cons (pe_bltn (v := .ty "ValueError") (u := .type "ValueError") (by rfl) T.z_ValueError (by decide +kernel) rfl) pa_nil))) pa_nil)))))) (pss_one (ps_ret (pe_tup (pa_cons pe_str (pa_cons (v_ 6) (pa_cons (v_ 5) pa_nil))))))))))) (pss_one (ps_ret (pe_tup (pa_cons pe_str (pa_cons (e_f K (v_ 4)) (pa_cons (e_f K (v_ 4)) (pa_cons (e_f K (v_ 4)) pa_nil)))))))), ?_⟩
  refine ⟨rfl, rfl, ?_⟩
  refine fun x dx nx nd ne => made_plan nx nd ne T.n_Plan hp hl hk few fl fk hz ?_
  clear nx nd ne
  unfold PlOut
  cases hb : bad1 (planNames ps lk kp) with
  | some z =>
    intro C d H1 hC s1 nd hd
    cases hC.symm.trans T.n_BadName
    refine ⟨true, T.m_BadName_ElseputError, fun _ e ne => ?_, fun h => nomatch h⟩
    refine ⟨fun σ' H' => H' = H1 ∧ σ' = [some (.ref p), some (.ref l), some (.ref k), some (.ref e), none, some (.str z), none], ?_, ?_⟩
    · refine .inl ⟨_, d, _, _, _, true, rfl, rfl, rfl, hd, T.x_BadName.is, fun u h => h, T.k_BadName_BadName, ?_⟩
      exact ⟨rfl, rfl, d, _, _, rfl, hd, rfl, rfl, rfl⟩
    rintro σ' H' ⟨rfl, rfl⟩
    refine .inl ⟨_, d, _, _, _, true, rfl, rfl, rfl, hd, T.x_BadName.is, fun u h => h, T.k_BadName_BadName, ?_⟩
    refine .inl ⟨_, d, _, _, _, false, rfl, rfl, rfl, hd, T.x_BadName.is, fun u h => h, T.k_BadName_BadPlan, ?_⟩
    refine .inl ⟨_, d, _, _, _, false, rfl, rfl, rfl, hd, T.x_BadName.is, fun u h => h, T.k_BadName_UnknownName, ?_⟩
    refine .inl ⟨_, d, _, _, _, true, rfl, rfl, rfl, hd, T.x_BadName.is, fun u h => h, T.k_BadName_ValueError, ?_⟩
    refine ⟨(by show 4 ≤ sizeLine; decide), fun u nu => ?_⟩
    refine ⟨(by show 3 ≤ sizeLine; decide), fun t nt => ?_⟩
    have s2 := same_new (o := .tup [.bl true, .bl false, .bl false, .bl true]) nu
    have s3 := same_new (o := .tup [.str "refused", .ref u, .str z]) nt
    exact q _ t ((s1.trans s2).trans s3) (try_bad hb upd_same (s3 _ _ upd_same))
  | none =>
    by_cases hn : planFits ps lk kp = true
    · show if planFits ps lk kp = true then _ else _
      rw [if_pos hn]
      intro H1 s1 hA
      refine ⟨rfl, ?_⟩
      obtain ⟨C, dx2, t1, l1, k1, hC, ha, h1, h2, h3⟩ := hA
      cases hC.symm.trans T.n_Plan
      refine ⟨x, a_Plan, dx2, _, _, rfl, ha, T.cl_Plan, T.na_Plan_steps, rfl, ?_⟩
      refine ⟨x, a_Plan, dx2, _, _, rfl, ha, T.cl_Plan, T.na_Plan_locked, rfl, ?_⟩
      refine ⟨x, a_Plan, dx2, _, _, rfl, ha, T.cl_Plan, T.na_Plan_kept, rfl, (by show 4 ≤ sizeLine; decide), fun t nt => ?_⟩
      have s3 := same_new (o := .tup [.str "made", .ref t1, .ref l1, .ref k1]) nt
      exact q _ t (s1.trans s3) (try_made hb hn ⟨_, _, _, upd_same, h1.same s3, SqT.same h2 s3, SqT.same h3 s3⟩)
    · show if planFits ps lk kp = true then _ else _
      rw [if_neg hn]
      intro C H1 hC s1
      cases hC.symm.trans T.n_BadPlan
      refine ⟨true, T.m_BadPlan_ElseputError, fun _ e ne => ?_, fun h => nomatch h⟩
      refine ⟨fun σ' H' => H' = H1 ∧ σ' = [some (.ref p), some (.ref l), some (.ref k), some (.ref e), none, some .non, none], ?_, ?_⟩
      · refine .inr ⟨_, _, _, false, rfl, rfl, rfl, T.x_BadPlan.is, fun u h => h, T.k_BadPlan_BadName, ?_⟩
        exact ⟨rfl, rfl⟩
      rintro σ' H' ⟨rfl, rfl⟩
      refine .inr ⟨_, _, _, false, rfl, rfl, rfl, T.x_BadPlan.is, fun u h => h, T.k_BadPlan_BadName, ?_⟩
      refine .inr ⟨_, _, _, true, rfl, rfl, rfl, T.x_BadPlan.is, fun u h => h, T.k_BadPlan_BadPlan, ?_⟩
      refine .inr ⟨_, _, _, false, rfl, rfl, rfl, T.x_BadPlan.is, fun u h => h, T.k_BadPlan_UnknownName, ?_⟩
      refine .inr ⟨_, _, _, true, rfl, rfl, rfl, T.x_BadPlan.is, fun u h => h, T.k_BadPlan_ValueError, ?_⟩
      refine ⟨(by show 4 ≤ sizeLine; decide), fun u nu => ?_⟩
      refine ⟨(by show 3 ≤ sizeLine; decide), fun t nt => ?_⟩
      have s2 := same_new (o := .tup [.bl false, .bl true, .bl false, .bl true]) nu
      have s3 := same_new (o := .tup [.str "refused", .ref u, .non]) nt
      exact q _ t ((s1.trans s2).trans s3) (try_not hb hn upd_same (s3 _ _ upd_same))
end
section
variable {P : Program} {w : World} {K : PySem.W.Frag} {mg : Str → Option Value} {base : Heap}
variable {t_LETTERS t_LONGEST_NAME : Tok} {a_DEEDS a_RESERVED a_BadName a_BadPlan a_ElseputError a_Plan a_UnknownName : Addr}
/-! ### the law's own reading of the rules -/
theorem mem_looked {ps : List Stp} {k : Str} : k ∈ looked ps ↔ lo k ∈ ps := by
  unfold looked
  constructor
  · intro h
    obtain ⟨s, hs, e⟩ := List.mem_map.mp h
    obtain ⟨d, j⟩ := s
    obtain ⟨h1, h2⟩ := List.mem_filter.mp hs
    have h2 : d = "look" := of_decide_eq_true h2
    have e : j = k := e
    rw [h2, e] at h1
    exact h1
  · intro h
    exact List.mem_map.mpr ⟨lo k, List.mem_filter.mpr ⟨h, decide_eq_true (rfl : ("look" : Str) = "look")⟩, rfl⟩
theorem nodup_of {α : Type} {zs : List α} (h : ∀ (i : Nat) (z : α), zs[i]? = some z → z ∉ zs.take i) : zs.Nodup := by
  refine List.pairwise_iff_getElem.mpr fun i j hi hj hij e => ?_
  refine h j _ (List.getElem?_eq_getElem hj) ?_
  rw [← e]
  have : (zs.take j)[i]? = some zs[i] := by rw [List.getElem?_take_of_lt hij]; exact List.getElem?_eq_getElem hi
  exact List.mem_of_getElem? this
theorem nodup_at {α : Type} {zs : List α} (n : zs.Nodup) {i : Nat} {z : α} (e : zs[i]? = some z) : z ∉ zs.take i := fun h => by
  obtain ⟨j, hj, ej⟩ := List.getElem_of_mem h
  have ej : (zs.take i)[j]? = some z := by rw [List.getElem?_eq_getElem hj, ej]
  rw [List.length_take] at hj
  rw [List.getElem?_take_of_lt (by omega)] at ej
  have := (List.getElem?_inj (by omega) n).mp (ej.trans e.symm)
  omega
/-- what is wrong with the key at i -/
def keyBad (ps : List Stp) (zs : List Str) (i : Nat) : Bool := match zs[i]? with
  | some z => !decide (z ∈ looked ps) || decide (z ∈ zs.take i)
  | none => false
theorem keyBad_at {ps : List Stp} {zs : List Str} {i : Nat} {z : Str} (e : zs[i]? = some z) : keyBad ps zs i = (!decide (z ∈ looked ps) || decide (z ∈ zs.take i)) := by
  unfold keyBad
  rw [e]
theorem keys_none {ps : List Stp} {zs : List Str} : ((List.range zs.length).filter (keyBad ps zs)).length = 0 ↔ keysFit ps zs = true := by
  rw [List.length_eq_zero_iff, List.filter_eq_nil_iff]
  unfold keysFit
  rw [Bool.and_eq_true, decide_eq_true_iff, List.all_eq_true]
  constructor
  · intro h
    have all : ∀ (i : Nat) (z : Str), zs[i]? = some z → z ∈ looked ps ∧ z ∉ zs.take i := fun i z e => by
      have k := h i (List.mem_range.mpr (List.getElem?_eq_some_iff.mp e).1)
      rw [keyBad_at e] at k
      simpa using k
    refine ⟨nodup_of fun i z e => (all i z e).2, fun z hz => ?_⟩
    obtain ⟨i, hi, e⟩ := List.getElem_of_mem hz
    exact decide_eq_true (mem_looked.mp (all i z (by rw [List.getElem?_eq_getElem hi, e])).1)
  · rintro ⟨n, h⟩ i hi
    obtain ⟨z, e⟩ : ∃ z, zs[i]? = some z := ⟨_, List.getElem?_eq_getElem (List.mem_range.mp hi)⟩
    rw [keyBad_at e]
    have a := mem_looked.mpr (of_decide_eq_true (h z (List.mem_of_getElem? e)))
    have b := nodup_at n e
    simp [a, b]
def sp__law_keys_good (K : PySem.W.Frag) : Sp := fun vs H Q _ => ∃ (l d : Addr) (ps : List Stp) (zs : List Str), vs = [.ref l, .ref d] ∧ H l = some (.lst (zs.map V.str)) ∧ H d = some (.lst ((looked ps).map V.str)) ∧ zs.length < 64 ∧ ∀ H', Same H H' → Q (.bl (keysFit ps zs)) H'
theorem len__law_keys_good {vs : List V} {H : Hp} {Q : VK} {E : XK} (h : sp__law_keys_good K vs H Q E) : vs.length = 2 := by
  obtain ⟨_, _, _, _, rfl, _⟩ := h
  rfl
theorem ok__law_keys_good {f : Addr} {fd : FuncData} (F : Fun K "_law_keys_good" "_law_keys_good" s__law_keys_good f fd) (T : Gs K mg t_LETTERS t_LONGEST_NAME a_DEEDS a_RESERVED a_BadName a_BadPlan a_ElseputError a_Plan a_UnknownName) : FnOk P w K mg base CX0 1 f fd ["_law_row", "_law_looked"] (sp__law_keys_good K) := by
  refine F.ok sc__law_keys_good (fun vs H Q E h => len__law_keys_good h) (fun cdv A outer s H vs Q E hr h => ?_)
  obtain ⟨l, d, ps, zs, rfl, hl, hd, fl, q⟩ := h
  refine ⟨_, (pss_one (ps_ret (pe_c (eqK K hr.units) (pe_callB (lenK K) (by rfl) T.z_len PySem.boot_len (pa_cons (pe_lc (own := [("_law_k", 2)]) (g := gName 2) (by rfl) sc__law_keys_good.nd (pi_range1 rfl T.z_range (pa_cons (pe_callB (lenK K) (by rfl) T.z_len PySem.boot_len (pa_cons (v_ 0) pa_nil)) pa_nil)) (blkOk_by (N := ["_law_row", "_law_looked", "_law_k"]) (sc := defScope s__law_keys_good) (by decide +kernel)) (fun _ _ _ _ _ => pg_name (i := 2) sc__law_keys_good.nd rfl (Or.inl rfl)) (fun _ _ _ _ _ => pts_one (PW.pt (pw_or (pt_c (notInK K) (e_x K (v_ 0) (v_ 2)) (v_ 1)) (pw_or1 (pt_c (inK K) (e_x K (v_ 0) (v_ 2)) (pe_slice (slK K) (v_ 0) po_none (po_some (v_ 2)))))))) (fun _ _ _ _ _ => (v_ 2))) pa_nil)) pe_int))), ?_⟩
  refine .inl ⟨_, .inl (SqL.of hl), _, rfl, by omega, by rw [List.length_map]; omega, fun D nD => ?_⟩
  rw [List.length_map]
  refine lc_it (walk_range (lo := 0) (n := zs.length)) (PvP H D (keepF (List.range zs.length) (keyBad ps zs) fun i => .int (0 + (i : Int)))) (pvp_start nD rfl) (fun _ _ _ _ => trivial) ?_ ?_
  · rintro i v H1 H2 hi pv ⟨rfl, hv⟩
    cases hv
    obtain ⟨z, e⟩ : ∃ z, zs[i]? = some z := ⟨_, List.getElem?_eq_getElem (by omega)⟩
    have er : (List.range zs.length)[i]? = some i := List.getElem?_range (by omega)
    have kb := keyBad_at (ps := ps) e
    have ez : atI (zs.map V.str) (0 + (i : Int)) = some (.str z) := by rw [Int.zero_add]; exact atI_nat (by rw [List.getElem?_map, e]; rfl)
    have hl2 := pv.1 _ _ hl
    have hd2 := pv.1 _ _ hd
    have put : ∀ {H4 : Hp}, Same H2 H4 → keyBad ps zs i = true → ∃ a, H4 D = some (.lst a) ∧ a.length < sizeLine ∧ PvP H D (keepF (List.range zs.length) (keyBad ps zs) fun i => .int (0 + (i : Int))) (i + 1) (upd H4 D (.lst (a ++ [.int (0 + (i : Int))]))) := fun s k => pvp_put nD pv s (keepF_put er k) (Nat.lt_of_le_of_lt keepF_len (by rw [List.length_range]; omega))
    refine ⟨rfl, ?_⟩
    refine ⟨_, .inl (SqL.of hl2), _, ez, _, .inl (SqL.of hd2), rfl, flat_strs, ?_⟩
    refine ite2 (fun c => ?_) (fun c => ?_)
    · have c : decide (z ∈ looked ps) = false := by
        have c : (!inV (.str z) ((looked ps).map V.str)) = true := c
        rw [inV_str] at c
        simpa using c
      have k : keyBad ps zs i = true := by rw [kb, c]; rfl
      exact put (Same.refl _) k
    · have c : decide (z ∈ looked ps) = true := by
        have c : ¬ (!inV (.str z) ((looked ps).map V.str)) = true := c
        rw [inV_str] at c
        simpa using c
      refine ⟨_, .inl (SqL.of hl2), _, ez, _, rfl, .inl ⟨_, SqL.of hl2, fun u nu => ?_⟩⟩
      rw [cutV_take _ (by omega), show ((0 : Int) + i).toNat = i by omega, ← List.map_take]
      have s3 := same_new (o := .lst ((zs.take i).map V.str)) nu
      refine ⟨_, .inl (SqL.of upd_same), rfl, flat_strs, ?_⟩
      refine ite2 (fun c2 => ?_) (fun c2 => ?_)
      · have c2 : decide (z ∈ zs.take i) = true := inV_str.symm.trans c2
        have k : keyBad ps zs i = true := by rw [kb, c2, Bool.or_true]
        exact put s3 k
      · have c2 : decide (z ∈ zs.take i) = false := inV_str.symm.trans (Bool.eq_false_iff.mpr c2)
        exact pvp_skip pv s3 (keepF_skip er (by rw [kb, c, c2]; decide))
  · rintro H1 ⟨sm, hD⟩
    rw [keepF_all (by rw [List.length_range])] at hD
    refine .inl ⟨_, .inl (SqL.of hD), ?_⟩
    rw [List.length_map]
    have z := q _ sm
    have e : keysFit ps zs = decide ((((List.range zs.length).filter (keyBad ps zs)).length : Int) = 0) := by
      rw [Bool.eq_iff_iff, ← keys_none, decide_eq_true_iff]
      omega
    rw [e] at z
    exact z
theorem fits_no {ps : List Stp} {i : Nat} {p : Stp} (e : ps[i]? = some p) (h : p ∈ ps.take i ∨ stepFits ps i p = false) : stepsFit ps = false := by
  cases f : stepsFit ps with
  | false => rfl
  | true =>
    unfold stepsFit at f
    rw [Bool.and_eq_true, Bool.and_eq_true, decide_eq_true_iff, decide_eq_true_iff, List.all_eq_true] at f
    rcases h with h | h
    · exact absurd h (nodup_at f.1.2 e)
    · have k := f.2 i (List.mem_range.mpr (List.getElem?_eq_some_iff.mp e).1)
      rw [e] at k
      have k : stepFits ps i p = true := k
      rw [h] at k
      cases k
theorem fits_yes {ps : List Stp} (ne : ps ≠ []) (h : ∀ (i : Nat) (p : Stp), ps[i]? = some p → p ∉ ps.take i ∧ stepFits ps i p = true) : stepsFit ps = true := by
  unfold stepsFit
  rw [Bool.and_eq_true, Bool.and_eq_true, decide_eq_true_iff, decide_eq_true_iff, List.all_eq_true]
  refine ⟨⟨ne, nodup_of fun i p e => (h i p e).1⟩, fun i hi => ?_⟩
  obtain ⟨p, e⟩ : ∃ p, ps[i]? = some p := ⟨_, List.getElem?_eq_getElem (List.mem_range.mp hi)⟩
  rw [e]
  exact (h i p e).2
def sp__law_steps_good (K : PySem.W.Frag) : Sp := fun vs H Q _ => ∃ (R d : Addr) (ps : List Stp), vs = [.ref R, .ref d] ∧ StL K H R ps ∧ H d = some (.lst ((looked ps).map V.str)) ∧ ps.length < 64 ∧ ∀ H', Same H H' → Q (.bl (stepsFit ps)) H'
theorem len__law_steps_good {vs : List V} {H : Hp} {Q : VK} {E : XK} (h : sp__law_steps_good K vs H Q E) : vs.length = 2 := by
  obtain ⟨_, _, _, rfl, _⟩ := h
  rfl
theorem ok__law_steps_good {f : Addr} {fd : FuncData} (F : Fun K "_law_steps_good" "_law_steps_good" s__law_steps_good f fd) (T : Gs K mg t_LETTERS t_LONGEST_NAME a_DEEDS a_RESERVED a_BadName a_BadPlan a_ElseputError a_Plan a_UnknownName) : FnOk P w K mg base CX0 1 f fd ["_law_steps", "_law_looked"] (sp__law_steps_good K) := by
  refine F.ok sc__law_steps_good (fun vs H Q E h => len__law_steps_good h) (fun cdv A outer s H vs Q E hr h => ?_)
  obtain ⟨R, d, ps, rfl, ⟨vs, hR, hp⟩, hd, few, q⟩ := h
  refine ⟨_, (pss_cons (ps_for PassesOwn.never rfl (pi_range1 rfl T.z_range (pa_cons (pe_callB (lenK K) (by rfl) T.z_len PySem.boot_len (pa_cons (v_ 0) pa_nil)) pa_nil)) (pg_name (i := 2) sc__law_steps_good.nd rfl (.inl rfl)) (pss_cons (ps_asg (e_x K (v_ 0) (v_ 2)) (pg_tup (by rfl) (pgs_cons (pg_name (i := 3) sc__law_steps_good.nd rfl (.inl rfl)) (pgs_cons (pg_name (i := 4) sc__law_steps_good.nd rfl (.inl rfl)) pgs_nil)))) (pss_cons (ps_if (PW.pt (pw_or (pt_c (notInK K) (v_ 3) (pe_lst (pa_cons pe_str (pa_cons pe_str (pa_cons pe_str pa_nil))))) (pw_or (pt_c (notInK K) (v_ 4) (v_ 1)) (pw_or1 (pt_c (inP K hr.units) (e_x K (v_ 0) (v_ 2)) (pe_slice (slK K) (v_ 0) po_none (po_some (v_ 2)))))))) (pss_one (ps_ret pe_bl)) pss_nil) (pss_one (ps_if (PW.pt (pw_and (pt_c (eqK K hr.units) (v_ 3) pe_str) (pw_and1 (pt_c (notInP K hr.units) (pe_tup (pa_cons pe_str (pa_cons (v_ 4) pa_nil))) (pe_slice (slK K) (v_ 0) po_none (po_some (v_ 2))))))) (pss_one (ps_ret pe_bl)) pss_nil))))) (pss_one (ps_ret (pe_c op_gtM (pe_callB (lenK K) (by rfl) T.z_len PySem.boot_len (pa_cons (v_ 0) pa_nil)) pe_int)))), ?_⟩
  have vl := pairs_len hp
  refine .inl ⟨_, .inl hR, vs.length, rfl, by omega, by omega, ?_⟩
  refine for_range (lo := 0) (n := vs.length) (fun i σ' H' => (∃ y z w, σ' = [some (.ref R), some (.ref d), y, z, w]) ∧ Same H H' ∧ ∀ (j : Nat) (p : Stp), j < i → ps[j]? = some p → p ∉ ps.take j ∧ stepFits ps j p = true) ⟨⟨_, _, _, rfl⟩, Same.refl _, fun j _ h => absurd h (Nat.not_lt_zero j)⟩ ?_ ?_
  · rintro i σ' H1 hi ⟨⟨y, z, w, rfl⟩, sm, ok⟩
    obtain ⟨⟨dd, k⟩, ep⟩ : ∃ p, ps[i]? = some p := ⟨_, List.getElem?_eq_getElem (by omega)⟩
    obtain ⟨v, ev, r, rfl, hr⟩ := pairs_to (pairs_same hp sm) ep
    have ev2 : atI vs (0 + (i : Int)) = some (.ref r) := by rw [Int.zero_add]; exact atI_nat ev
    have no : (((dd, k) : Stp) ∈ ps.take i ∨ stepFits ps i (dd, k) = false) → ∀ H', Same H1 H' → Q (.bl false) H' := fun h H' s => by
      have z := q _ (sm.trans s)
      rw [fits_no ep h] at z
      exact z
    refine ⟨vs, .inl (sm.seq hR), _, ev2, r, _, rfl, hr, rfl, _, _, rfl, _, _, rfl, rfl, ?_⟩
    refine ⟨(by show 3 ≤ sizeLine; decide), fun u nu => ?_⟩
    have su := same_new (o := .lst [.str "take", .str "look", .str "free"]) nu
    refine ⟨_, .inl (SqL.of upd_same), rfl, rfl, ?_⟩
    have eb : inV (.str dd) [.str "take", .str "look", .str "free"] = decide (dd ∈ deeds) := inV_deeds
    refine ite2 (fun c => ?_) (fun c => ?_)
    · have c : decide (dd ∈ deeds) = false := by
        have c : (!inV (.str dd) [.str "take", .str "look", .str "free"]) = true := c
        rw [eb] at c
        simpa using c
      refine no (.inr ?_) _ su
      unfold stepFits
      rw [c, Bool.false_and]
      exact ite_self _
    have c : decide (dd ∈ deeds) = true := by
      have c : ¬ (!inV (.str dd) [.str "take", .str "look", .str "free"]) = true := c
      rw [eb] at c
      simpa using c
    have sd := sm.trans su
    refine ⟨_, .inl (SqL.of (sd _ _ hd)), rfl, flat_strs, ?_⟩
    refine ite2 (fun c2 => ?_) (fun c2 => ?_)
    · have c2 : k ∉ looked ps := by
        have c2 : (!inV (.str k) ((looked ps).map V.str)) = true := c2
        rw [inV_str] at c2
        simpa using c2
      refine no (.inr ?_) _ su
      unfold stepFits
      rw [decide_eq_false fun h => c2 (mem_looked.mpr h), Bool.and_false]
      exact ite_self _
    have c2 : k ∈ looked ps := by
      have c2 : ¬ (!inV (.str k) ((looked ps).map V.str)) = true := c2
      rw [inV_str] at c2
      simpa using c2
    refine ⟨vs, .inl (sd.seq hR), _, ev2, _, rfl, .inl ⟨_, sd.seq hR, fun u2 nu2 => ?_⟩⟩
    rw [cutV_take _ (by omega), show ((0 : Int) + i).toNat = i by omega]
    have s3 := su.trans (same_new (o := .lst (vs.take i)) nu2)
    have sd3 := sm.trans s3
    have hu2 : (upd (upd H1 u (.lst [.str "take", .str "look", .str "free"])) u2 (.lst (vs.take i))) u2 = some (.lst (vs.take i)) := upd_same
    generalize upd (upd H1 u (.lst [.str "take", .str "look", .str "free"])) u2 (.lst (vs.take i)) = H2 at s3 sd3 hu2 ⊢
    refine ⟨(dd, k), u2, vs.take i, ps.take i, ⟨r, rfl, SqT.same hr s3⟩, rfl, .inr (SqL.of hu2), pairs_take (pairs_same hp sd3) i, ?_⟩
    refine ite2 (fun c3 => ?_) (fun c3 => ?_)
    · exact no (.inl (of_decide_eq_true c3)) _ s3
    have c3 : ((dd, k) : Stp) ∉ ps.take i := of_decide_eq_false (Bool.eq_false_iff.mpr c3)
    have next : ∀ H3, Same H1 H3 → stepFits ps i (dd, k) = true → (∃ y z w, [some (V.ref R), some (V.ref d), some (V.int (0 + (i : Int))), some (V.str dd), some (V.str k)] = [some (V.ref R), some (V.ref d), y, z, w]) ∧ Same H H3 ∧ ∀ (j : Nat) (p : Stp), j < i + 1 → ps[j]? = some p → p ∉ ps.take j ∧ stepFits ps j p = true := fun H3 s f => ⟨⟨_, _, _, rfl⟩, sm.trans s, fun j p hj e => by
      by_cases z : j = i
      · subst z
        rw [ep] at e
        cases e
        exact ⟨c3, f⟩
      · exact ok j p (by omega) e⟩
    have into : ¬ (dd = "free" ∧ tk k ∉ ps.take i) → stepFits ps i (dd, k) = true := fun h => by
      have z : stepFits ps i (dd, k) = (decide (dd ∈ deeds) && decide (lo k ∈ ps)) := if_neg h
      rw [z, c, decide_eq_true (mem_looked.mp c2)]
      rfl
    refine ite2 (fun c4 => ?_) (fun c4 => ?_)
    · have c4 : dd = "free" := of_decide_eq_true c4
      refine ⟨(by show 2 ≤ sizeLine; decide), fun p np => ?_⟩
      have s4 := same_new (o := .tup [.str "take", .str k]) np
      have sd4 := sd3.trans s4
      refine ⟨_, rfl, .inl ⟨_, sd4.seq hR, fun u3 nu3 => ?_⟩⟩
      rw [cutV_take _ (by omega), show ((0 : Int) + i).toNat = i by omega]
      have s5 := same_new (o := .lst (vs.take i)) nu3
      refine ⟨tk k, u3, vs.take i, ps.take i, pair_same pair_new s5, rfl, .inr (SqL.of upd_same), pairs_take (pairs_same hp (sd4.trans s5)) i, ?_⟩
      refine ite2 (fun c5 => ?_) (fun c5 => ?_)
      · refine no (.inr ?_) _ ((s3.trans s4).trans s5)
        exact if_pos ⟨c4, of_decide_eq_true c5⟩
      · exact next _ ((s3.trans s4).trans s5) (into fun h => c5 (decide_eq_true h.2))
    · have c4 : dd ≠ "free" := fun h => c4 (decide_eq_true h)
      exact next _ s3 (into fun h => c4 h.1)
  · rintro σ' H1 ⟨⟨y, z, w, rfl⟩, sm, ok⟩
    refine .inl ⟨_, .inl (sm.seq hR), ?_⟩
    have z := q _ sm
    have e : stepsFit ps = decide ((0 : Int) < (vs.length : Int)) := by
      by_cases n : ps = []
      · rw [vl, n]
        rfl
      · rw [fits_yes n fun i p e => ok i p (by have := (List.getElem?_eq_some_iff.mp e).1; omega) e, decide_eq_true]
        have := List.length_pos_iff.mpr n
        omega
    rw [e] at z
    exact z
end
section
variable {P : Program} {w : World} {K : PySem.W.Frag} {mg : Str → Option Value} {base : Heap}
variable {t_LETTERS t_LONGEST_NAME : Tok} {a_DEEDS a_RESERVED a_BadName a_BadPlan a_ElseputError a_Plan a_UnknownName : Addr}
theorem fl_due {ps : List Stp} {lk kp : List Str} (h : stepsFit ps = false ∨ keysFit ps lk = false ∨ keysFit ps kp = false) : ¬ planFits ps lk kp = true := by
  unfold planFits
  rcases h with h | h | h <;> rw [h] <;> simp
def sp__law_due (K : PySem.W.Frag) : Sp := fun vs H Q _ => ∃ (R l k n : Addr) (ps : List Stp) (lk kp ns : List Str), vs = [.ref R, .ref l, .ref k, .ref n] ∧ (∃ us, H R = some (.lst us) ∧ PairsIn K H us ps) ∧ H l = some (.lst (lk.map V.str)) ∧ H k = some (.lst (kp.map V.str)) ∧ H n = some (.lst (ns.map V.str)) ∧ ps.length < 64 ∧ lk.length < 64 ∧ kp.length < 64 ∧
  (∀ z ∈ planNames ps lk kp, isName z = true ↔ z ∈ ns) ∧ ∀ (H' : Hp) (t : Addr), Same H H' → TryAt K H' t ps lk kp → Q (.ref t) H'
theorem len__law_due {vs : List V} {H : Hp} {Q : VK} {E : XK} (h : sp__law_due K vs H Q E) : vs.length = 4 := by
  obtain ⟨_, _, _, _, _, _, _, _, rfl, _⟩ := h
  rfl
theorem ok__law_due {f : Addr} {fd : FuncData} {f__law_steps_good : Addr} {fd__law_steps_good : FuncData} {f__law_keys_good : Addr} {fd__law_keys_good : FuncData} (F : Fun K "_law_due" "_law_due" s__law_due f fd) (T : Gs K mg t_LETTERS t_LONGEST_NAME a_DEEDS a_RESERVED a_BadName a_BadPlan a_ElseputError a_Plan a_UnknownName) (c__law_steps_good : Cal P w K mg base CX0 1 "_law_steps_good" f__law_steps_good fd__law_steps_good ["_law_steps", "_law_looked"] (sp__law_steps_good K)) (c__law_keys_good : Cal P w K mg base CX0 1 "_law_keys_good" f__law_keys_good fd__law_keys_good ["_law_row", "_law_looked"] (sp__law_keys_good K)) : FnOk P w K mg base CX0 2 f fd ["_law_steps", "_law_row_keys", "_law_held_keys", "_law_names_here"] (sp__law_due K) := by
  refine F.ok sc__law_due (fun vs H Q E h => len__law_due h) (fun cdv A outer s H vs Q E hr h => ?_)
  obtain ⟨R, l, k, n, ps, lk, kp, ns, rfl, ⟨vs, hR, hp⟩, hl, hk, hn, few, fl, fk, hin, q⟩ := h
  refine ⟨_, (pss_cons (ps_for PassesOwn.never rfl (pi_list (pe_op (addK K) (pe_op (addK K) (pe_lc (own := [("_law_step", 7)]) (g := gName 7) (by rfl) sc__law_due.nd (pi_list (v_ 0)) (blkOk_by (N := ["_law_steps", "_law_row_keys", "_law_held_keys", "_law_names_here", "_law_name", "_law_looked", "_law_first", "_law_step", "_law_key"]) (sc := defScope s__law_due) (by decide +kernel)) (fun _ _ _ _ _ => pg_name (i := 7) sc__law_due.nd rfl (Or.inl rfl)) (fun _ _ _ _ _ => pts_nil) (fun _ _ _ _ _ => (e_x K (v_ 7) pe_int))) (v_ 1)) (v_ 2))) (pg_name (i := 4) sc__law_due.nd rfl (.inl rfl)) (pss_one (ps_if (pt_c (notInK K) (v_ 4) (v_ 3)) (pss_one (ps_ret (pe_tup (pa_cons pe_str (pa_cons (pe_tup (pa_cons pe_bl (pa_cons pe_bl (pa_cons pe_bl (pa_cons pe_bl pa_nil))))) (pa_cons (v_ 4) pa_nil)))))) pss_nil))) (pss_cons (ps_setLc (i := 5) (own := [("_law_step", 7)]) (g := gName 7) (by rfl) sc__law_due.nd rfl rfl (sw_true rfl rfl rfl (by decide +kernel)) (pi_list (v_ 0)) (blkOk_by (N := ["_law_steps", "_law_row_keys", "_law_held_keys", "_law_names_here", "_law_name", "_law_looked", "_law_first", "_law_step", "_law_key"]) (sc := defScope s__law_due) (by decide +kernel)) (fun _ _ _ _ _ => pg_name (i := 7) sc__law_due.nd rfl (Or.inl rfl)) (fun _ _ _ _ _ => pts_one (pt_c (eqK K hr.units) (e_x K (v_ 7) pe_int) pe_str)) (fun _ _ _ _ _ => (e_x K (v_ 7) pe_int))) (pss_cons (ps_if (pt_not (pt_t K (pe_call c__law_steps_good.G (hr.mono (by first | decide | omega)) rfl c__law_steps_good.m c__law_steps_good.kp c__law_steps_good.b .nil pass0 (pa_cons (v_ 0) (pa_cons (v_ 5) pa_nil))))) (pss_one (ps_ret (pe_tup (pa_cons pe_str (pa_cons (pe_tup (pa_cons pe_bl (pa_cons pe_bl (pa_cons pe_bl (pa_cons pe_bl pa_nil))))) (pa_cons pe_non pa_nil)))))) pss_nil) (pss_cons (ps_if (PW.pt (pw_or (pt_not (pt_t K (pe_call c__law_keys_good.G (hr.mono (by first | decide | omega)) rfl c__law_keys_good.m c__law_keys_good.kp c__law_keys_good.b .nil pass0 (pa_cons (v_ 1) (pa_cons (v_ 5) pa_nil))))) (pw_or1 (pt_not (pt_t K (pe_call c__law_keys_good.G (hr.mono (by first | decide | omega)) rfl c__law_keys_good.m c__law_keys_good.kp c__law_keys_good.b .nil pass0 (pa_cons (v_ 2) (pa_cons (v_ 5) pa_nil)))))))) (pss_one (ps_ret (pe_tup (pa_cons pe_str (pa_cons (pe_tup (pa_cons pe_bl (pa_cons pe_bl (pa_cons pe_bl (pa_cons pe_bl pa_nil))))) (pa_cons pe_non pa_nil)))))) pss_nil) (pss_cons (ps_set (i := 6) sc__law_due.nd rfl (.inl rfl) (pe_callTy (tupleK K) (by rfl) T.z_tuple (by decide +kernel) (pa_cons (pe_lc (own := [("_law_key", 8)]) (g := gName 8) (by rfl) sc__law_due.nd (pi_list (v_ 5)) (blkOk_by (N := ["_law_steps", "_law_row_keys", "_law_held_keys", "_law_names_here", "_law_name", "_law_looked", "_law_first", "_law_step", "_law_key"]) (sc := defScope s__law_due) (by decide +kernel)) (fun _ _ _ _ _ => pg_name (i := 8) sc__law_due.nd rfl (Or.inl rfl)) (fun _ _ _ _ _ => pts_one (pt_c (inK K) (v_ 8) (v_ 1))) (fun _ _ _ _ _ => (v_ 8))) pa_nil))) (pss_one (ps_ret (pe_tup (pa_cons pe_str (pa_cons (pe_callTy (tupleK K) (by rfl) T.z_tuple (by decide +kernel) (pa_cons (v_ 0) pa_nil)) (pa_cons (v_ 6) (pa_cons (pe_callTy (tupleK K) (by rfl) T.z_tuple (by decide +kernel) (pa_cons (pe_lc (own := [("_law_key", 8)]) (g := gName 8) (by rfl) sc__law_due.nd (pi_list (v_ 5)) (blkOk_by (N := ["_law_steps", "_law_row_keys", "_law_held_keys", "_law_names_here", "_law_name", "_law_looked", "_law_first", "_law_step", "_law_key"]) (sc := defScope s__law_due) (by decide +kernel)) (fun _ _ _ _ _ => pg_name (i := 8) sc__law_due.nd rfl (Or.inl rfl)) (fun _ _ _ _ _ => pts_one (pt_c (inK K) (v_ 8) (v_ 2))) (fun _ _ _ _ _ => (v_ 8))) pa_nil)) pa_nil)))))))))))), ?_⟩
  have vl := pairs_len hp
  refine ⟨R, rfl, ⟨_, SqL.of hR⟩, fun D nD => ?_⟩
  refine lc_it (walk_list (xs := vs)) (PvP H D (mapF ps fun p => .str p.2)) (pvp_start nD rfl) (fun _ _ _ h => SqL.of (h.1 _ _ hR)) ?_ ?_
  · rintro i v H1 H2 hi pv ⟨rfl, hv⟩
    obtain ⟨⟨d, z⟩, e, r, rfl, hr⟩ := pairs_at (pairs_same hp pv.1) hv
    refine ⟨rfl, ?_⟩
    exact ⟨_, .inr hr, .str z, rfl, pvp_put nD pv (Same.refl _) (mapF_put e) (Nat.lt_of_le_of_lt mapF_len (by omega))⟩
  rintro H1 ⟨s1, hD⟩
  rw [mapF_all vl] at hD
  refine .inl ⟨_, _, hD, s1 _ _ hl, line_of (by rw [List.length_map, List.length_map]; omega), fun p1 n1 => ?_⟩
  have s2 := s1.trans (same_new (o := .lst (ps.map (fun p => V.str p.2) ++ lk.map V.str)) n1)
  refine .inl ⟨_, _, upd_same, s2 _ _ hk, line_of (by rw [List.length_append, List.length_map, List.length_map, List.length_map]; omega), fun p2 n2 => ?_⟩
  have s3 := s2.trans (same_new (o := .lst (ps.map (fun p => V.str p.2) ++ lk.map V.str ++ kp.map V.str)) n2)
  have eN : ps.map (fun p => V.str p.2) ++ lk.map V.str ++ kp.map V.str = (planNames ps lk kp).map V.str := by
    unfold planNames
    rw [List.map_append, List.map_append, List.map_map]
    rfl
  rw [eN] at s3 ⊢
  have h3 : ∀ H3 : Hp, (upd H3 p2 (.lst ((planNames ps lk kp).map V.str))) p2 = some (.lst ((planNames ps lk kp).map V.str)) := fun _ => upd_same
  have h3 := h3 (upd H1 p1 (.lst (ps.map (fun p => V.str p.2) ++ lk.map V.str)))
  generalize upd (upd H1 p1 (.lst (ps.map (fun p => V.str p.2) ++ lk.map V.str))) p2 (.lst ((planNames ps lk kp).map V.str)) = H3 at s3 h3 ⊢
  clear s2 s1 hD n1 n2
  refine ⟨p2, rfl, ⟨_, SqL.of h3⟩, ?_⟩
  refine for_list (K := K) (a := p2) (xs := (planNames ps lk kp).map V.str) (fun i σ' H' => (∃ y, σ' = [some (.ref R), some (.ref l), some (.ref k), some (.ref n), y, none, none, none, none]) ∧ H' = H3 ∧ ∀ y ∈ (planNames ps lk kp).take i, isName y = true) ⟨⟨_, rfl⟩, rfl, fun _ h => nomatch h⟩ (fun i σ' H' _ h => by rw [h.2.1]; exact SqL.of h3) ?_ ?_
  · rintro i v σ' H' hi ⟨⟨y, rfl⟩, rfl, hh⟩
    rw [List.getElem?_map] at hi
    obtain ⟨z, ez, rfl⟩ := Option.map_eq_some_iff.mp hi
    have hz := hin z (List.mem_of_getElem? ez)
    refine ⟨_, .inl (SqL.of (s3 _ _ hn)), rfl, flat_strs, ?_⟩
    refine ite2 (fun e => ?_) (fun e => ?_)
    · have e : z ∉ ns := by
        have e : (!inV (.str z) (ns.map V.str)) = true := e
        rw [inV_str] at e
        simpa using e
      have hb := bad_at hh ez (fun k => e (hz.mp k))
      refine ⟨(by show 4 ≤ sizeLine; decide), fun u nu => ?_⟩
      refine ⟨(by show 3 ≤ sizeLine; decide), fun t nt => ?_⟩
      have s4 := same_new (o := .tup [.bl true, .bl false, .bl false, .bl true]) nu
      have s5 := same_new (o := .tup [.str "refused", .ref u, .str z]) nt
      exact q _ t ((s3.trans s4).trans s5) (try_bad hb upd_same (s5 _ _ upd_same))
    · have e : z ∈ ns := by
        have e : ¬ (!inV (.str z) (ns.map V.str)) = true := e
        rw [inV_str] at e
        simpa using e
      refine ⟨⟨_, rfl⟩, rfl, fun y hy => ?_⟩
      rw [take_snoc ez] at hy
      rcases List.mem_append.mp hy with h | h
      · exact hh y h
      · rw [List.mem_singleton.mp h]
        exact hz.mpr e
  rintro σ' H' ⟨⟨y, rfl⟩, rfl, hh⟩
  rw [List.length_map, List.take_length] at hh
  have hb := bad_none hh
  have notFit : ∀ H4, Same H' H4 → ¬ planFits ps lk kp = true → 4 ≤ sizeLine ∧ ∀ u, H4 u = none → 3 ≤ sizeLine ∧ ∀ t, (upd H4 u (.tup [.bl false, .bl true, .bl false, .bl true])) t = none → Q (.ref t) (upd (upd H4 u (.tup [.bl false, .bl true, .bl false, .bl true])) t (.tup [.str "refused", .ref u, .non])) := fun H4 s4 nf => by
    refine ⟨by decide, fun u nu => ⟨by decide, fun t nt => ?_⟩⟩
    have s5 := same_new (o := .tup [.bl false, .bl true, .bl false, .bl true]) nu
    have s6 := same_new (o := .tup [.str "refused", .ref u, .non]) nt
    exact q _ t (((s3.trans s4).trans s5).trans s6) (try_not hb nf upd_same (s6 _ _ upd_same))
  have hR3 := s3 _ _ hR
  have hp3 := pairs_same hp s3
  have hl3 := s3 _ _ hl
  have hk3 := s3 _ _ hk
  clear hh h3 nD
  -- the keys that are looked at
  refine ⟨R, rfl, ⟨_, SqL.of hR3⟩, fun D nD => ?_⟩
  refine lc_it (walk_list (xs := vs)) (PvP H' D (keepF ps (fun p => decide (p.1 = ("look" : Str))) fun p => .str p.2)) (pvp_start nD rfl) (fun _ _ _ h => SqL.of (h.1 _ _ hR3)) ?_ ?_
  · rintro i v H1 H2 hi pv ⟨rfl, hv⟩
    obtain ⟨⟨d, z⟩, e, r, rfl, hr⟩ := pairs_at (pairs_same hp3 pv.1) hv
    refine ⟨rfl, ?_⟩
    refine ⟨_, .inr hr, .str d, rfl, ?_⟩
    refine ite2 (fun c => ?_) (fun c => ?_)
    · exact ⟨_, .inr hr, .str z, rfl, pvp_put nD pv (Same.refl _) (keepF_put e c) (Nat.lt_of_le_of_lt keepF_len (by omega))⟩
    · exact pvp_skip pv (Same.refl _) (keepF_skip e c)
  rintro H4 ⟨s4, hD⟩
  rw [keepF_all vl] at hD
  have hD : H4 D = some (.lst ((looked ps).map V.str)) := by
    rw [hD]
    unfold looked
    rw [List.map_map]
    rfl
  refine ⟨R, D, ps, rfl, ⟨vs, SqL.of (s4 _ _ hR3), pairs_same hp3 s4⟩, hD, few, fun H5 s5 => ?_⟩
  have s45 := s4.trans s5
  refine ite2 (fun c => ?_) (fun c => ?_)
  · exact notFit _ s45 (fl_due (.inl (by simpa using c)))
  have f1 : stepsFit ps = true := by simpa using c
  refine ⟨l, D, ps, lk, rfl, s45 _ _ hl3, s5 _ _ hD, fl, fun H6 s6 => ?_⟩
  have s46 := s45.trans s6
  refine ite2 (fun c => ?_) (fun c => ?_)
  · exact notFit _ s46 (fl_due (.inr (.inl (by simpa using c))))
  have f2 : keysFit ps lk = true := by simpa using c
  refine ⟨k, D, ps, kp, rfl, s46 _ _ hk3, s6 _ _ (s5 _ _ hD), fk, fun H7 s7 => ?_⟩
  have s47 := s46.trans s7
  refine ite2 (fun c => ?_) (fun c => ?_)
  · exact notFit _ s47 (fl_due (.inr (.inr (by simpa using c))))
  have f3 : keysFit ps kp = true := by simpa using c
  have hD := s7 _ _ (s6 _ _ (s5 _ _ hD))
  have good : planFits ps lk kp = true := by
    unfold planFits
    rw [f1, f2, f3]
    rfl
  have ll : (looked ps).length < 64 := Nat.lt_of_le_of_lt looked_len few
  clear s4 s5 s6 s45 s46 notFit f1 f2 f3
  -- what is locked
  refine ⟨D, rfl, ⟨_, SqL.of hD⟩, fun D1 nD1 => ?_⟩
  refine lc_it (walk_list (xs := (looked ps).map V.str)) (PvP H7 D1 (keepF (looked ps) (fun z => decide (z ∈ lk)) V.str)) (pvp_start nD1 rfl) (fun _ _ _ h => SqL.of (h.1 _ _ hD)) ?_ ?_
  · rintro i v H1 H2 hi pv ⟨rfl, hv⟩
    rw [List.getElem?_map] at hv
    obtain ⟨z, e, rfl⟩ := Option.map_eq_some_iff.mp hv
    refine ⟨rfl, ?_⟩
    refine ⟨_, .inl (SqL.of (pv.1 _ _ (s47 _ _ hl3))), rfl, flat_strs, ?_⟩
    refine ite2 (fun c => ?_) (fun c => ?_)
    · exact pvp_put nD1 pv (Same.refl _) (keepF_put e (inV_str.symm.trans c)) (Nat.lt_of_le_of_lt keepF_len (by omega))
    · exact pvp_skip pv (Same.refl _) (keepF_skip e fun h => c (inV_str.trans h))
  rintro H8 ⟨s8, hD1⟩
  rw [keepF_all (by rw [List.length_map])] at hD1
  refine ⟨D1, _, rfl, .inl ⟨SqL.of hD1, fun w1 nw1 => ?_⟩⟩
  have s9 := same_new (o := .tup (((looked ps).filter fun z => decide (z ∈ lk)).map V.str)) nw1
  have hw1 : TxT K (upd H8 w1 (.tup (((looked ps).filter fun z => decide (z ∈ lk)).map V.str))) w1 (among ps lk) := SqT.of upd_same
  have s79 := s8.trans s9
  generalize upd H8 w1 (.tup (((looked ps).filter fun z => decide (z ∈ lk)).map V.str)) = H9 at s79 hw1 ⊢
  clear s8 s9 hD1 nD1 nw1
  have s39 := s47.trans s79
  -- the steps
  refine ⟨R, _, rfl, .inl ⟨SqL.of (s39 _ _ hR3), fun w0 nw0 => ?_⟩⟩
  have s10 := same_new (o := .tup vs) nw0
  have s3a := s39.trans s10
  have hw0 : StT K (upd H9 w0 (.tup vs)) w0 ps := ⟨vs, SqT.of upd_same, pairs_same hp3 s3a⟩
  have hw1 := SqT.same hw1 s10
  have hDa := s10 _ _ (s79 _ _ hD)
  generalize upd H9 w0 (.tup vs) = Ha at s3a hw0 hw1 hDa ⊢
  clear s10 nw0 s39 s79
  -- what is kept
  refine ⟨D, rfl, ⟨_, SqL.of hDa⟩, fun D2 nD2 => ?_⟩
  refine lc_it (walk_list (xs := (looked ps).map V.str)) (PvP Ha D2 (keepF (looked ps) (fun z => decide (z ∈ kp)) V.str)) (pvp_start nD2 rfl) (fun _ _ _ h => SqL.of (h.1 _ _ hDa)) ?_ ?_
  · rintro i v H1 H2 hi pv ⟨rfl, hv⟩
    rw [List.getElem?_map] at hv
    obtain ⟨z, e, rfl⟩ := Option.map_eq_some_iff.mp hv
    refine ⟨rfl, ?_⟩
    refine ⟨_, .inl (SqL.of (pv.1 _ _ (s3a _ _ hk3))), rfl, flat_strs, ?_⟩
    refine ite2 (fun c => ?_) (fun c => ?_)
    · exact pvp_put nD2 pv (Same.refl _) (keepF_put e (inV_str.symm.trans c)) (Nat.lt_of_le_of_lt keepF_len (by omega))
    · exact pvp_skip pv (Same.refl _) (keepF_skip e fun h => c (inV_str.trans h))
  rintro Hb ⟨sb, hD2⟩
  rw [keepF_all (by rw [List.length_map])] at hD2
  refine ⟨D2, _, rfl, .inl ⟨SqL.of hD2, fun w2 nw2 => ?_⟩⟩
  have sc := same_new (o := .tup (((looked ps).filter fun z => decide (z ∈ kp)).map V.str)) nw2
  have hw2 : TxT K (upd Hb w2 (.tup (((looked ps).filter fun z => decide (z ∈ kp)).map V.str))) w2 (among ps kp) := SqT.of upd_same
  refine ⟨(by show 4 ≤ sizeLine; decide), fun t nt => ?_⟩
  have sd := same_new (o := .tup [.str "made", .ref w0, .ref w1, .ref w2]) nt
  have sbd := (sb.trans sc).trans sd
  exact q _ t ((s3.trans s3a).trans sbd) (try_made hb good ⟨w0, w1, w2, upd_same, hw0.same sbd, SqT.same hw1 sbd, SqT.same hw2 sd⟩)
end
section
variable {P : Program} {w : World} {K : PySem.W.Frag} {mg : Str → Option Value} {base : Heap}
variable {t_LETTERS t_LONGEST_NAME : Tok} {a_DEEDS a_RESERVED a_BadName a_BadPlan a_ElseputError a_Plan a_UnknownName : Addr}
/-! ### rows that are bent -/
theorem pairs_drop {K : PySem.W.Frag} {H : Hp} {vs : List V} {ps : List Stp} (h : PairsIn K H vs ps) : ∀ n, PairsIn K H (vs.drop n) (ps.drop n) := by
  induction h with
  | nil => intro n; rw [List.drop_nil, List.drop_nil]; exact .nil
  | cons a b ih =>
    intro n
    cases n with
    | zero => exact .cons a b
    | succ n => exact ih n
theorem pairs_app {K : PySem.W.Frag} {H : Hp} {vs us : List V} {ps qs : List Stp} (h : PairsIn K H vs ps) (g : PairsIn K H us qs) : PairsIn K H (vs ++ us) (ps ++ qs) := by
  induction h with
  | nil => exact g
  | cons a _ ih => exact .cons a ih
theorem pairs_rev {K : PySem.W.Frag} {H : Hp} {vs : List V} {ps : List Stp} (h : PairsIn K H vs ps) : PairsIn K H vs.reverse ps.reverse := by
  induction h with
  | nil => exact .nil
  | cons a _ ih =>
    rw [List.reverse_cons, List.reverse_cons]
    exact pairs_snoc ih a
theorem pairs_cut {K : PySem.W.Frag} {H : Hp} {vs : List V} {ps : List Stp} (h : PairsIn K H vs ps) (a b : Option Int) : ∃ qs, PairsIn K H (cutV vs a b) qs ∧ ∀ s ∈ qs, s ∈ ps := by
  unfold cutV
  exact ⟨_, pairs_take (pairs_drop h _) _, fun s hs => List.mem_of_mem_drop (List.mem_of_mem_take hs)⟩
theorem cut_two {vs : List V} {a : Int} (h : 0 ≤ a) : (cutV vs (some a) (some (a + 2))).length ≤ 2 := by
  unfold cutV
  have e1 := HT.sIx_nat vs.length 0 a.toNat
  have e2 := HT.sIx_nat vs.length vs.length (a + 2).toNat
  rw [show ((a.toNat : Nat) : Int) = a by omega] at e1
  rw [show (((a + 2).toNat : Nat) : Int) = a + 2 by omega] at e2
  rw [List.length_take, e1, e2]
  omega
def OkN (ns : List Str) (z : Str) : Prop := (isName z = true ↔ z ∈ ns) ∧ z.length ≤ 1000 ∧ Asc z
structure Bent (K : PySem.W.Frag) (H : Hp) (st : Addr) (ns : List Str) (R L M : Addr) (ps : List Stp) (lk kp : List Str) : Prop where
  n1 : R ≠ st
  n2 : L ≠ st
  n3 : M ≠ st
  r : ∃ us, H R = some (.lst us) ∧ PairsIn K H us ps
  l : H L = some (.lst (lk.map V.str))
  m : H M = some (.lst (kp.map V.str))
  o1 : ∀ s ∈ ps, OkN ns s.2
  o2 : ∀ z ∈ lk, OkN ns z
  o3 : ∀ z ∈ kp, OkN ns z
theorem Bent.bt {K : PySem.W.Frag} {H H' : Hp} {st : Addr} {ns : List Str} {R L M : Addr} {ps : List Stp} {lk kp : List Str} (h : Bent K H st ns R L M ps lk kp) (hs : ∃ l, H st = some (.lst l)) (b : Bt st H H') : Bent K H' st ns R L M ps lk kp :=
  ⟨h.n1, h.n2, h.n3, stL_bt h.r h.n1 hs b, b _ _ h.n2 h.l, b _ _ h.n3 h.m, h.o1, h.o2, h.o3⟩
theorem Bent.all {K : PySem.W.Frag} {H : Hp} {st : Addr} {ns : List Str} {R L M : Addr} {ps : List Stp} {lk kp : List Str} (h : Bent K H st ns R L M ps lk kp) : ∀ z ∈ planNames ps lk kp, OkN ns z := fun z hz => by
  unfold planNames at hz
  rcases List.mem_append.mp hz with e | e
  · rcases List.mem_append.mp e with e | e
    · obtain ⟨s, hs, rfl⟩ := List.mem_map.mp e
      exact h.o1 s hs
    · exact h.o2 z e
  · exact h.o3 z e
def sp__law_spoiled (K : PySem.W.Frag) : Sp := fun vs H Q _ => ∃ (st scr t n R L M : Addr) (ps : List Stp) (lk kp ns : List Str), vs = [.ref st, .ref t, .ref n] ∧ DrAt H st scr ∧ SqT K H t [.ref R, .ref L, .ref M] ∧ H n = some (.lst (ns.map V.str)) ∧ n ≠ st ∧ 0 < ns.length ∧ ns.length ≤ 20 ∧ (∀ z ∈ ns, isName z = true) ∧
  Bent K H st ns R L M ps lk kp ∧ ps.length ≤ 50 ∧ lk.length ≤ 50 ∧ kp.length ≤ 50 ∧
  ∀ (H' : Hp) (t' R' L' M' : Addr) (ps' : List Stp) (lk' kp' : List Str), Bt st H H' → DrAt H' st scr → SqT K H' t' [.ref R', .ref L', .ref M'] → Bent K H' st ns R' L' M' ps' lk' kp' → ps'.length ≤ ps.length + 1 → lk'.length ≤ lk.length + 1 → kp'.length ≤ kp.length + 1 → Q (.ref t') H'
theorem len__law_spoiled {vs : List V} {H : Hp} {Q : VK} {E : XK} (h : sp__law_spoiled K vs H Q E) : vs.length = 3 := by
  obtain ⟨_, _, _, _, _, _, _, _, _, _, _, rfl, _⟩ := h
  rfl
theorem ok__law_spoiled {f : Addr} {fd : FuncData} {f__law_draw : Addr} {fd__law_draw : FuncData} {f__law_pick : Addr} {fd__law_pick : FuncData} {f__law_bad_name : Addr} {fd__law_bad_name : FuncData} (F : Fun K "_law_spoiled" "_law_spoiled" s__law_spoiled f fd) (T : Gs K mg t_LETTERS t_LONGEST_NAME a_DEEDS a_RESERVED a_BadName a_BadPlan a_ElseputError a_Plan a_UnknownName) (c__law_draw : Cal P w K mg base CX0 1 "_law_draw" f__law_draw fd__law_draw ["_law_state_here", "_law_many"] (sp__law_draw K)) (c__law_pick : Cal P w K mg base CX0 2 "_law_pick" f__law_pick fd__law_pick ["_law_state_here", "_law_row"] (sp__law_pick K)) (c__law_bad_name : Cal P w K mg base CX0 3 "_law_bad_name" f__law_bad_name fd__law_bad_name ["_law_state_here", "_law_good"] (sp__law_bad_name K)) : FnOk P w K mg base CX0 4 f fd ["_law_state_here", "_law_plan_rows", "_law_names_here"] (sp__law_spoiled K) := by
  refine F.ok sc__law_spoiled (fun vs H Q E h => len__law_spoiled h) (fun cdv A outer s H vs Q E hr h => ?_)
  obtain ⟨st, scr, t, n, R, L, M, ps, lk, kp, ns, rfl, hd, ht, hn, ne, n0, n20, hnn, B, lp, ll, lm, q⟩ := h
  refine ⟨_, (pss_cons (ps_asg (v_ 1) (pg_tup (by rfl) (pgs_cons (pg_name (i := 7) sc__law_spoiled.nd rfl (.inl rfl)) (pgs_cons (pg_name (i := 8) sc__law_spoiled.nd rfl (.inl rfl)) (pgs_cons (pg_name (i := 9) sc__law_spoiled.nd rfl (.inl rfl)) pgs_nil))))) (pss_cons (ps_set (i := 3) sc__law_spoiled.nd rfl (.inl rfl) (pe_call c__law_draw.G (hr.mono (by first | decide | omega)) rfl c__law_draw.m c__law_draw.kp c__law_draw.b .nil pass0 (pa_cons (v_ 0) (pa_cons pe_int pa_nil)))) (pss_cons (ps_set (i := 4) sc__law_spoiled.nd rfl (.inl rfl) (pe_call c__law_pick.G (hr.mono (by first | decide | omega)) rfl c__law_pick.m c__law_pick.kp c__law_pick.b .nil pass0 (pa_cons (v_ 0) (pa_cons (v_ 2) pa_nil)))) (Evl.pss_cut (ps_if (PW.pt (pw_or (pt_c (eqK K hr.units) (v_ 3) pe_int) (pw_or1 (pt_c op_gtM (v_ 3) pe_int)))) (pss_one (ps_set (i := 4) sc__law_spoiled.nd rfl (.inl rfl) (pe_call c__law_bad_name.G (hr.mono (by first | decide | omega)) rfl c__law_bad_name.m c__law_bad_name.kp c__law_bad_name.b .nil pass0 (pa_cons (v_ 0) (pa_cons (v_ 4) pa_nil))))) pss_nil) (pss_cons (ps_if (PW.pt (pw_or (pt_c (eqK K hr.units) (v_ 3) pe_int) (pw_or1 (pt_c (eqK K hr.units) (v_ 3) pe_int)))) (pss_cons (ps_set (i := 5) sc__law_spoiled.nd rfl (.inl rfl) (pe_call c__law_draw.G (hr.mono (by first | decide | omega)) rfl c__law_draw.m c__law_draw.kp c__law_draw.b .nil pass0 (pa_cons (v_ 0) (pa_cons (pe_op (addK K) (pe_callB (lenK K) (by rfl) T.z_len PySem.boot_len (pa_cons (v_ 8) pa_nil)) pe_int) pa_nil)))) (pss_one (ps_ret (pe_tup (pa_cons (v_ 7) (pa_cons (pe_op (addK K) (pe_op (addK K) (pe_slice (slK K) (v_ 8) po_none (po_some (v_ 5))) (pe_lst (pa_cons (v_ 4) pa_nil))) (pe_slice (slK K) (v_ 8) (po_some (v_ 5)) po_none)) (pa_cons (v_ 9) pa_nil))))))) pss_nil) (pss_cons (ps_if (PW.pt (pw_or (pt_c (eqK K hr.units) (v_ 3) pe_int) (pw_or1 (pt_c (eqK K hr.units) (v_ 3) pe_int)))) (pss_cons (ps_set (i := 5) sc__law_spoiled.nd rfl (.inl rfl) (pe_call c__law_draw.G (hr.mono (by first | decide | omega)) rfl c__law_draw.m c__law_draw.kp c__law_draw.b .nil pass0 (pa_cons (v_ 0) (pa_cons (pe_op (addK K) (pe_callB (lenK K) (by rfl) T.z_len PySem.boot_len (pa_cons (v_ 9) pa_nil)) pe_int) pa_nil)))) (pss_one (ps_ret (pe_tup (pa_cons (v_ 7) (pa_cons (v_ 8) (pa_cons (pe_op (addK K) (pe_op (addK K) (pe_slice (slK K) (v_ 9) po_none (po_some (v_ 5))) (pe_lst (pa_cons (v_ 4) pa_nil))) (pe_slice (slK K) (v_ 9) (po_some (v_ 5)) po_none)) pa_nil))))))) pss_nil) (pss_cons (ps_if (PW.pt (pw_or (pt_c (eqK K hr.units) (v_ 3) pe_int) (pw_or1 (pt_c (eqK K hr.units) (pe_callB (lenK K) (by rfl) T.z_len PySem.boot_len (pa_cons (v_ 7) pa_nil)) pe_int)))) (pss_one (ps_ret (pe_tup (pa_cons (pe_lst pa_nil) (pa_cons (v_ 8) (pa_cons (v_ 9) pa_nil)))))) pss_nil) (pss_cons (ps_set (i := 5) sc__law_spoiled.nd rfl (.inl rfl) (pe_call c__law_draw.G (hr.mono (by first | decide | omega)) rfl c__law_draw.m c__law_draw.kp c__law_draw.b .nil pass0 (pa_cons (v_ 0) (pa_cons (pe_callB (lenK K) (by rfl) T.z_len PySem.boot_len (pa_cons (v_ 7) pa_nil)) pa_nil)))) (pss_cons (ps_set (i := 6) sc__law_spoiled.nd rfl (.inl rfl) (pe_call c__law_draw.G (hr.mono (by first | decide | omega)) rfl c__law_draw.m c__law_draw.kp c__law_draw.b .nil pass0 (pa_cons (v_ 0) (pa_cons (pe_op (addK K) (pe_callB (lenK K) (by rfl) T.z_len PySem.boot_len (pa_cons (v_ 7) pa_nil)) pe_int) pa_nil)))) (pss_cons (ps_asg (e_x K (v_ 7) (v_ 5)) (pg_tup (by rfl) (pgs_cons (pg_name (i := 10) sc__law_spoiled.nd rfl (.inl rfl)) (pgs_cons (pg_name (i := 11) sc__law_spoiled.nd rfl (.inl rfl)) pgs_nil)))) (pss_cons (ps_if (pt_c (eqK K hr.units) (v_ 3) pe_int) (pss_one (ps_ret (pe_tup (pa_cons (pe_op (addK K) (pe_op (addK K) (pe_slice (slK K) (v_ 7) po_none (po_some (v_ 6))) (pe_lst (pa_cons (pe_tup (pa_cons (v_ 10) (pa_cons (v_ 11) pa_nil))) pa_nil))) (pe_slice (slK K) (v_ 7) (po_some (v_ 6)) po_none)) (pa_cons (v_ 8) (pa_cons (v_ 9) pa_nil)))))) pss_nil) (pss_cons (ps_if (pt_c (eqK K hr.units) (v_ 3) pe_int) (pss_one (ps_ret (pe_tup (pa_cons (pe_op (addK K) (pe_op (addK K) (pe_slice (slK K) (v_ 7) po_none (po_some (v_ 6))) (pe_lst (pa_cons (pe_tup (pa_cons pe_str (pa_cons (v_ 11) pa_nil))) pa_nil))) (pe_slice (slK K) (v_ 7) (po_some (v_ 6)) po_none)) (pa_cons (v_ 8) (pa_cons (v_ 9) pa_nil)))))) pss_nil) (pss_cons (ps_if (pt_c (eqK K hr.units) (v_ 3) pe_int) (pss_one (ps_ret (pe_tup (pa_cons (pe_op (addK K) (pe_slice (slK K) (v_ 7) po_none (po_some (v_ 5))) (pe_slice (slK K) (v_ 7) (po_some (pe_op (addK K) (v_ 5) pe_int)) po_none)) (pa_cons (v_ 8) (pa_cons (v_ 9) pa_nil)))))) pss_nil) (pss_cons (ps_if (pt_c (eqK K hr.units) (v_ 3) pe_int) (pss_one (ps_ret (pe_tup (pa_cons (pe_op (addK K) (pe_op (addK K) (pe_slice (slK K) (v_ 7) po_none (po_some (v_ 5))) (pe_revL (pe_slice (slK K) (v_ 7) (po_some (v_ 5)) (po_some (pe_op (addK K) (v_ 5) pe_int))))) (pe_slice (slK K) (v_ 7) (po_some (pe_op (addK K) (v_ 5) pe_int)) po_none)) (pa_cons (v_ 8) (pa_cons (v_ 9) pa_nil)))))) pss_nil) (Evl.pss_cut (ps_if (pt_c (eqK K hr.units) (v_ 3) pe_int) (pss_one (ps_set (i := 10) sc__law_spoiled.nd rfl (.inl rfl) (pe_call c__law_pick.G (hr.mono (by first | decide | omega)) rfl c__law_pick.m c__law_pick.kp c__law_pick.b .nil pass0 (pa_cons (v_ 0) (pa_cons (pe_lst (pa_cons pe_str (pa_cons pe_str (pa_cons pe_str (pa_cons pe_str (pa_cons pe_str (pa_cons pe_str (pa_cons pe_str (pa_cons pe_str pa_nil))))))))) pa_nil))))) (pss_one (ps_set (i := 11) sc__law_spoiled.nd rfl (.inl rfl) (v_ 4)))) (pss_one (ps_ret (pe_tup (pa_cons (pe_op (addK K) (pe_op (addK K) (pe_slice (slK K) (v_ 7) po_none (po_some (v_ 5))) (pe_lst (pa_cons (pe_tup (pa_cons (v_ 10) (pa_cons (v_ 11) pa_nil))) pa_nil))) (pe_slice (slK K) (v_ 7) (po_some (pe_op (addK K) (v_ 5) pe_int)) po_none)) (pa_cons (v_ 8) (pa_cons (v_ 9) pa_nil))))))))))))))))))))), ?_⟩
  refine ⟨t, _, rfl, ht, rfl, _, _, rfl, _, _, rfl, _, _, rfl, rfl, ?_⟩
  have hs : ∃ l, H st = some (.lst l) := hd.lst
  refine ⟨st, scr, 12, rfl, hd, by decide, many_small (by decide) (by decide), fun kind l1 k0 k1 d1 => ?_⟩
  have b1 : Bt st H (upd H st (.lst l1)) := Bt.st
  generalize upd H st (.lst l1) = H1 at d1 b1 ⊢
  refine ⟨st, scr, _, rfl, d1, .inr ⟨n, _, rfl, b1 _ _ ne hn, ne, by rw [List.length_map]; exact n0, by rw [List.length_map]; omega, fun x l2 hx d2 => ?_⟩⟩
  obtain ⟨it, hit, rfl⟩ := List.mem_map.mp hx
  have b2 := b1.trans (Bt.st (st := st) (o := .lst l2))
  generalize upd H1 st (.lst l2) = H2 at d2 b2 ⊢
  clear hx d1 b1
  refine ⟨fun σ' H' => (∃ it, σ' = [some (.ref st), some (.ref t), some (.ref n), some (.int kind), some (.str it), none, none, some (.ref R), some (.ref L), some (.ref M), none, none] ∧ OkN ns it) ∧ Bt st H H' ∧ DrAt H' st scr, ?_, ?_⟩
  · have bad : ∀ (H' : Hp) (w : Str), Bt st H2 H' → DrAt H' st scr → isName w = false → w.length ≤ 30 → Asc w → (∃ it, [some (.ref st), some (.ref t), some (.ref n), some (.int kind), some (.str w), none, none, some (.ref R), some (.ref L), some (.ref M), none, none] = [some (V.ref st), some (.ref t), some (.ref n), some (.int kind), some (.str it), none, none, some (.ref R), some (.ref L), some (.ref M), none, none] ∧ OkN ns it) ∧ Bt st H H' ∧ DrAt H' st scr := fun H' w b d nw lw aw => by
      refine ⟨⟨w, rfl, ⟨fun h => ?_, fun h => hnn w h⟩, by omega, aw⟩, b2.trans b, d⟩
      rw [nw] at h
      cases h
    have good : OkN ns it := ⟨⟨fun _ => hit, fun _ => hnn it hit⟩, by have := (isName_mem (hnn it hit)).2.2.1; omega, isName_asc (hnn it hit)⟩
    refine ite2 (fun c => ?_) (fun c => ?_)
    · exact ⟨st, scr, it, rfl, d2, hnn it hit, bad⟩
    refine ite2 (fun c => ?_) (fun c => ?_)
    · exact ⟨st, scr, it, rfl, d2, hnn it hit, bad⟩
    · exact ⟨⟨it, rfl, good⟩, b2, d2⟩
  clear b2 d2 hit
  rintro σ' H2 ⟨⟨it, rfl, good⟩, b2, d2⟩
  have B2 := B.bt hs b2
  -- a row of keys with the item in it
  refine ite2 (fun c => ?_) (fun c => ite2 (fun c => ?_) (fun c => ?_))
  iterate 2
    · refine .inl ⟨_, .inl (SqL.of B2.l), ?_⟩
      rw [List.length_map]
      refine ⟨st, scr, _, rfl, d2, by omega, many_small (by omega) (by omega), fun at_ l3 a0 a1 d3 => ?_⟩
      have b3 := b2.trans (Bt.st (st := st) (o := .lst l3))
      generalize upd H2 st (.lst l3) = H3 at d3 b3 ⊢
      have B3 := B.bt hs b3
      have hX := B3.l
      refine ⟨at_, rfl, .inl ⟨_, SqL.of hX, fun p1 n1 => ?_⟩⟩
      have e1 : cutV (lk.map V.str) none (some at_) = (lk.take at_.toNat).map V.str := by rw [cutV_take _ a0, List.map_take]
      have e2 : cutV (lk.map V.str) (some at_) none = (lk.drop at_.toNat).map V.str := by rw [cutV_drop _ a0, List.map_drop]
      rw [e1]
      have q1 := same_new (o := .lst ((lk.take at_.toNat).map V.str)) n1
      refine ⟨(by show 1 ≤ sizeLine; decide), fun p2 n2 => ?_⟩
      have q2 := same_new (o := .lst [.str it]) n2
      refine .inl ⟨_, _, q2 _ _ upd_same, upd_same, line_of (by rw [List.length_map, List.length_take, List.length_singleton]; omega), fun p3 n3 => ?_⟩
      have q3 := same_new (o := .lst ((lk.take at_.toNat).map V.str ++ [.str it])) n3
      have q13 := (q1.trans q2).trans q3
      refine ⟨at_, rfl, .inl ⟨_, SqL.of (q13 _ _ hX), fun p4 n4 => ?_⟩⟩
      rw [e2]
      have q4 := same_new (o := .lst ((lk.drop at_.toNat).map V.str)) n4
      refine .inl ⟨_, _, q4 _ _ upd_same, upd_same, line_of (by rw [List.length_append, List.length_map, List.length_map, List.length_take, List.length_drop, List.length_singleton]; omega), fun p5 n5 => ?_⟩
      have q5 := same_new (o := .lst ((lk.take at_.toNat).map V.str ++ [.str it] ++ (lk.drop at_.toNat).map V.str)) n5
      have q15 := (q13.trans q4).trans q5
      have n5' := Same.free (q13.trans q4) n5
      refine ⟨(by show 3 ≤ sizeLine; decide), fun u nu => ?_⟩
      have q6 := same_new (o := .tup [.ref R, .ref p5, .ref M]) nu
      have b6 := b3.trans (Bt.same (st := st) (q15.trans q6))
      have B6 := B.bt hs b6
      refine q _ u R p5 M ps (lk.take at_.toNat ++ [it] ++ lk.drop at_.toNat) kp b6 (d3.new (q15.trans q6)) (SqT.of upd_same) ⟨B6.n1, d3.ne_new n5', B6.n3, B6.r, q6 _ _ ?_, B6.m, B6.o1, fun z hz => ?_, B6.o3⟩ (by omega) ?_ (by omega)
      · rw [upd_same, List.map_append, List.map_append]
        rfl
      · rcases List.mem_append.mp hz with h | h
        · rcases List.mem_append.mp h with h | h
          · exact B.o2 z (List.mem_of_mem_take h)
          · rw [List.mem_singleton.mp h]
            exact good
        · exact B.o2 z (List.mem_of_mem_drop h)
      · rw [List.length_append, List.length_append, List.length_take, List.length_drop, List.length_singleton]
        omega
  refine ite2 (fun c => ?_) (fun c => ite2 (fun c => ?_) (fun c => ?_))
  iterate 2
    · refine .inl ⟨_, .inl (SqL.of B2.m), ?_⟩
      rw [List.length_map]
      refine ⟨st, scr, _, rfl, d2, by omega, many_small (by omega) (by omega), fun at_ l3 a0 a1 d3 => ?_⟩
      have b3 := b2.trans (Bt.st (st := st) (o := .lst l3))
      generalize upd H2 st (.lst l3) = H3 at d3 b3 ⊢
      have B3 := B.bt hs b3
      have hX := B3.m
      refine ⟨at_, rfl, .inl ⟨_, SqL.of hX, fun p1 n1 => ?_⟩⟩
      have e1 : cutV (kp.map V.str) none (some at_) = (kp.take at_.toNat).map V.str := by rw [cutV_take _ a0, List.map_take]
      have e2 : cutV (kp.map V.str) (some at_) none = (kp.drop at_.toNat).map V.str := by rw [cutV_drop _ a0, List.map_drop]
      rw [e1]
      have q1 := same_new (o := .lst ((kp.take at_.toNat).map V.str)) n1
      refine ⟨(by show 1 ≤ sizeLine; decide), fun p2 n2 => ?_⟩
      have q2 := same_new (o := .lst [.str it]) n2
      refine .inl ⟨_, _, q2 _ _ upd_same, upd_same, line_of (by rw [List.length_map, List.length_take, List.length_singleton]; omega), fun p3 n3 => ?_⟩
      have q3 := same_new (o := .lst ((kp.take at_.toNat).map V.str ++ [.str it])) n3
      have q13 := (q1.trans q2).trans q3
      refine ⟨at_, rfl, .inl ⟨_, SqL.of (q13 _ _ hX), fun p4 n4 => ?_⟩⟩
      rw [e2]
      have q4 := same_new (o := .lst ((kp.drop at_.toNat).map V.str)) n4
      refine .inl ⟨_, _, q4 _ _ upd_same, upd_same, line_of (by rw [List.length_append, List.length_map, List.length_map, List.length_take, List.length_drop, List.length_singleton]; omega), fun p5 n5 => ?_⟩
      have q5 := same_new (o := .lst ((kp.take at_.toNat).map V.str ++ [.str it] ++ (kp.drop at_.toNat).map V.str)) n5
      have q15 := (q13.trans q4).trans q5
      have n5' := Same.free (q13.trans q4) n5
      refine ⟨(by show 3 ≤ sizeLine; decide), fun u nu => ?_⟩
      have q6 := same_new (o := .tup [.ref R, .ref L, .ref p5]) nu
      have b6 := b3.trans (Bt.same (st := st) (q15.trans q6))
      have B6 := B.bt hs b6
      refine q _ u R L p5 ps lk (kp.take at_.toNat ++ [it] ++ kp.drop at_.toNat) b6 (d3.new (q15.trans q6)) (SqT.of upd_same) ⟨B6.n1, B6.n2, d3.ne_new n5', B6.r, B6.l, q6 _ _ ?_, B6.o1, B6.o2, fun z hz => ?_⟩ (by omega) (by omega) ?_
      · rw [upd_same, List.map_append, List.map_append]
        rfl
      · rcases List.mem_append.mp hz with h | h
        · rcases List.mem_append.mp h with h | h
          · exact B.o3 z (List.mem_of_mem_take h)
          · rw [List.mem_singleton.mp h]
            exact good
        · exact B.o3 z (List.mem_of_mem_drop h)
      · rw [List.length_append, List.length_append, List.length_take, List.length_drop, List.length_singleton]
        omega
  -- a row of steps that is bent
  have fin : ∀ {H3 H5 : Hp} {p5 : Addr} {us' : List V} {ps' : List Stp}, Bt st H H3 → DrAt H3 st scr → Same H3 H5 → H3 p5 = none → H5 p5 = some (.lst us') → PairsIn K H5 us' ps' → ps'.length ≤ ps.length + 1 → (∀ s ∈ ps', OkN ns s.2) → 3 ≤ sizeLine ∧ ∀ u, H5 u = none → Q (.ref u) (upd H5 u (.tup [.ref p5, .ref L, .ref M])) := fun {H3 H5 p5 us' ps'} b3 d3 s5 n5 h5 hp5 l5 o5 => by
    refine ⟨by decide, fun u nu => ?_⟩
    have q6 := same_new (o := .tup [.ref p5, .ref L, .ref M]) nu
    have b6 := b3.trans (Bt.same (st := st) (s5.trans q6))
    have B6 := B.bt hs b6
    exact q _ u p5 L M ps' lk kp b6 (d3.new (s5.trans q6)) (SqT.of upd_same) ⟨d3.ne_new n5, B6.n2, B6.n3, ⟨us', q6 _ _ h5, pairs_same hp5 q6⟩, B6.l, B6.m, o5, B6.o2, B6.o3⟩ l5 (by omega) (by omega)
  have none_ : 0 ≤ sizeLine ∧ ∀ p5, H2 p5 = none → 3 ≤ sizeLine ∧ ∀ u, (upd H2 p5 (.lst [])) u = none → Q (.ref u) (upd (upd H2 p5 (.lst [])) u (.tup [.ref p5, .ref L, .ref M])) := ⟨Nat.zero_le _, fun p5 n5 => fin b2 d2 (same_new n5) n5 upd_same .nil (by simp) (fun _ h => nomatch h)⟩
  refine ite2 (fun c => none_) (fun c => ?_)
  obtain ⟨us, hR, hp⟩ := B2.r
  have ul := pairs_len hp
  refine .inl ⟨_, .inl (SqL.of hR), ite2 (fun c => none_) (fun c => ?_)⟩
  have c : ¬ (us.length : Int) = 0 := of_decide_eq_false (Bool.eq_false_iff.mpr c)
  refine .inl ⟨_, .inl (SqL.of hR), ?_⟩
  refine ⟨st, scr, _, rfl, d2, by omega, many_small (by omega) (by omega), fun at_ l3 a0 a1 d3 => ?_⟩
  have b3 := b2.trans (Bt.st (st := st) (o := .lst l3))
  generalize upd H2 st (.lst l3) = H3 at d3 b3 ⊢
  have B3 := B.bt hs b3
  clear hR hp none_
  have ul0 : ps.length ≠ 0 := by omega
  obtain ⟨us3, hR, hp⟩ := B3.r
  have ul3 := pairs_len hp
  refine .inl ⟨_, .inl (SqL.of hR), ?_⟩
  refine ⟨st, scr, _, rfl, d3, by omega, many_small (by omega) (by omega), fun spot l4 s0 s1 d4 => ?_⟩
  have b4 := b3.trans (Bt.st (st := st) (o := .lst l4))
  generalize upd H3 st (.lst l4) = H4 at d4 b4 ⊢
  have B4 := B.bt hs b4
  clear hR hp
  obtain ⟨vs, hR, hp⟩ := B4.r
  have vl := pairs_len hp
  obtain ⟨⟨d, k⟩, ep⟩ : ∃ p, ps[at_.toNat]? = some p := ⟨_, List.getElem?_eq_getElem (by omega)⟩
  obtain ⟨v, ev, r, rfl, hr⟩ := pairs_to hp ep
  have ev2 : atI vs at_ = some (.ref r) := by
    have z := atI_nat ev
    rwa [show ((at_.toNat : Nat) : Int) = at_ by omega] at z
  have okk : OkN ns k := B.o1 _ (List.mem_of_getElem? ep)
  refine ⟨vs, .inl (SqL.of hR), _, ev2, r, _, rfl, hr, rfl, _, _, rfl, _, _, rfl, rfl, ?_⟩
  have at1 : at_.toNat < ps.length := by omega
  -- one step put in, before the step at b
  have ins : ∀ {H5 : Hp} {p5 T : Addr} {dd kk : Str} (a b : Nat), Same H4 H5 → H4 p5 = none → H5 p5 = some (.lst (vs.take a ++ [.ref T] ++ vs.drop b)) → H5 T = some (.tup [.str dd, .str kk]) → OkN ns kk → a ≤ b → 3 ≤ sizeLine ∧ ∀ u, H5 u = none → Q (.ref u) (upd H5 u (.tup [.ref p5, .ref L, .ref M])) := fun {H5 p5 T dd kk} a b s5 n5 h5 hT ok hab => by
    have P : PairsIn K H5 (vs.take a ++ [.ref T] ++ vs.drop b) (ps.take a ++ [(dd, kk)] ++ ps.drop b) := pairs_app (pairs_snoc (pairs_same (pairs_take hp a) s5) ⟨T, rfl, SqT.of hT⟩) (pairs_same (pairs_drop hp b) s5)
    refine fin b4 d4 s5 n5 h5 P ?_ fun s hs => ?_
    · rw [List.length_append, List.length_append, List.length_take, List.length_drop, List.length_singleton]
      omega
    · rcases List.mem_append.mp hs with h | h
      · rcases List.mem_append.mp h with h | h
        · exact B.o1 s (List.mem_of_mem_take h)
        · rw [List.mem_singleton.mp h]
          exact ok
      · exact B.o1 s (List.mem_of_mem_drop h)
  -- 0: a step twice
  refine ite2 (fun c => ?_) (fun c => ?_)
  · refine ⟨spot, rfl, .inl ⟨_, SqL.of hR, fun p1 n1 => ?_⟩⟩
    rw [cutV_take _ s0]
    have q1 := same_new (o := .lst (vs.take spot.toNat)) n1
    refine ⟨(by show 2 ≤ sizeLine; decide), fun T nT => ?_⟩
    have q2 := same_new (o := .tup [.str d, .str k]) nT
    refine ⟨(by show 1 ≤ sizeLine; decide), fun p2 n2 => ?_⟩
    have q3 := same_new (o := .lst [.ref T]) n2
    refine .inl ⟨_, _, q3 _ _ (q2 _ _ upd_same), upd_same, line_of (by rw [List.length_take, List.length_singleton]; omega), fun p3 n3 => ?_⟩
    have q4 := same_new (o := .lst (vs.take spot.toNat ++ [.ref T])) n3
    have q14 := ((q1.trans q2).trans q3).trans q4
    refine ⟨spot, rfl, .inl ⟨_, SqL.of (q14 _ _ hR), fun p4 n4 => ?_⟩⟩
    rw [cutV_drop _ s0]
    have q5 := same_new (o := .lst (vs.drop spot.toNat)) n4
    refine .inl ⟨_, _, q5 _ _ upd_same, upd_same, line_of (by rw [List.length_append, List.length_take, List.length_drop, List.length_singleton]; omega), fun p5 n5 => ?_⟩
    have q6 := same_new (o := .lst (vs.take spot.toNat ++ [.ref T] ++ vs.drop spot.toNat)) n5
    exact ins spot.toNat spot.toNat ((q14.trans q5).trans q6) (Same.free (q14.trans q5) n5) upd_same (q6 _ _ (q5 _ _ (q4 _ _ (q3 _ _ upd_same)))) okk (Nat.le_refl _)
  -- 2: freed besides
  refine ite2 (fun c => ?_) (fun c => ?_)
  · refine ⟨spot, rfl, .inl ⟨_, SqL.of hR, fun p1 n1 => ?_⟩⟩
    rw [cutV_take _ s0]
    have q1 := same_new (o := .lst (vs.take spot.toNat)) n1
    refine ⟨(by show 2 ≤ sizeLine; decide), fun T nT => ?_⟩
    have q2 := same_new (o := .tup [.str "free", .str k]) nT
    refine ⟨(by show 1 ≤ sizeLine; decide), fun p2 n2 => ?_⟩
    have q3 := same_new (o := .lst [.ref T]) n2
    refine .inl ⟨_, _, q3 _ _ (q2 _ _ upd_same), upd_same, line_of (by rw [List.length_take, List.length_singleton]; omega), fun p3 n3 => ?_⟩
    have q4 := same_new (o := .lst (vs.take spot.toNat ++ [.ref T])) n3
    have q14 := ((q1.trans q2).trans q3).trans q4
    refine ⟨spot, rfl, .inl ⟨_, SqL.of (q14 _ _ hR), fun p4 n4 => ?_⟩⟩
    rw [cutV_drop _ s0]
    have q5 := same_new (o := .lst (vs.drop spot.toNat)) n4
    refine .inl ⟨_, _, q5 _ _ upd_same, upd_same, line_of (by rw [List.length_append, List.length_take, List.length_drop, List.length_singleton]; omega), fun p5 n5 => ?_⟩
    have q6 := same_new (o := .lst (vs.take spot.toNat ++ [.ref T] ++ vs.drop spot.toNat)) n5
    exact ins spot.toNat spot.toNat ((q14.trans q5).trans q6) (Same.free (q14.trans q5) n5) upd_same (q6 _ _ (q5 _ _ (q4 _ _ (q3 _ _ upd_same)))) okk (Nat.le_refl _)
  -- 3: a step left out
  refine ite2 (fun c => ?_) (fun c => ?_)
  · refine ⟨at_, rfl, .inl ⟨_, SqL.of hR, fun p1 n1 => ?_⟩⟩
    rw [cutV_take _ a0]
    have q1 := same_new (o := .lst (vs.take at_.toNat)) n1
    refine ⟨at_ + 1, rfl, .inl ⟨_, SqL.of (q1 _ _ hR), fun p4 n4 => ?_⟩⟩
    rw [cutV_drop _ (by omega)]
    have q5 := same_new (o := .lst (vs.drop (at_ + 1).toNat)) n4
    refine .inl ⟨_, _, q5 _ _ upd_same, upd_same, line_of (by rw [List.length_take, List.length_drop]; omega), fun p5 n5 => ?_⟩
    have q6 := same_new (o := .lst (vs.take at_.toNat ++ vs.drop (at_ + 1).toNat)) n5
    have qs := (q1.trans q5).trans q6
    refine fin b4 d4 qs (Same.free (q1.trans q5) n5) upd_same (pairs_app (pairs_same (pairs_take hp _) qs) (pairs_same (pairs_drop hp _) qs)) (by rw [List.length_append, List.length_take, List.length_drop]; omega) fun s hs => ?_
    rcases List.mem_append.mp hs with h | h
    · exact B.o1 s (List.mem_of_mem_take h)
    · exact B.o1 s (List.mem_of_mem_drop h)
  -- 4: two steps in the other order
  refine ite2 (fun c => ?_) (fun c => ?_)
  · obtain ⟨qs, hq, oq⟩ := pairs_cut hp (some at_) (some (at_ + 2))
    have l2 := cut_two (vs := vs) a0
    have ql := pairs_len hq
    refine ⟨at_, rfl, .inl ⟨_, SqL.of hR, fun p1 n1 => ?_⟩⟩
    rw [cutV_take _ a0]
    have q1 := same_new (o := .lst (vs.take at_.toNat)) n1
    refine ⟨at_, rfl, at_ + 2, rfl, .inl ⟨_, SqL.of (q1 _ _ hR), fun p2 n2 => ?_⟩⟩
    generalize cutV vs (some at_) (some (at_ + 2)) = ms at hq l2 ql ⊢
    have q2 := same_new (o := .lst ms) n2
    refine ⟨p2, ms, rfl, SqL.of upd_same, fun p3 n3 => ?_⟩
    have q3 := same_new (o := .lst ms.reverse) n3
    refine .inl ⟨_, _, q3 _ _ (q2 _ _ upd_same), upd_same, line_of (by rw [List.length_take, List.length_reverse]; omega), fun p4 n4 => ?_⟩
    have q4 := same_new (o := .lst (vs.take at_.toNat ++ ms.reverse)) n4
    have q14 := ((q1.trans q2).trans q3).trans q4
    refine ⟨at_ + 2, rfl, .inl ⟨_, SqL.of (q14 _ _ hR), fun p6 n6 => ?_⟩⟩
    rw [cutV_drop _ (by omega)]
    have q5 := same_new (o := .lst (vs.drop (at_ + 2).toNat)) n6
    refine .inl ⟨_, _, q5 _ _ upd_same, upd_same, line_of (by rw [List.length_append, List.length_take, List.length_drop, List.length_reverse]; omega), fun p5 n5 => ?_⟩
    have q6 := same_new (o := .lst (vs.take at_.toNat ++ ms.reverse ++ vs.drop (at_ + 2).toNat)) n5
    have sx := (q14.trans q5).trans q6
    refine fin b4 d4 sx (Same.free (q14.trans q5) n5) upd_same (pairs_app (pairs_app (pairs_same (pairs_take hp _) sx) (pairs_same (pairs_rev hq) sx)) (pairs_same (pairs_drop hp _) sx)) (by rw [List.length_append, List.length_append, List.length_take, List.length_drop, List.length_reverse]; omega) fun s hs => ?_
    rcases List.mem_append.mp hs with h | h
    · rcases List.mem_append.mp h with h | h
      · exact B.o1 s (List.mem_of_mem_take h)
      · exact B.o1 s (oq s (List.mem_reverse.mp h))
    · exact B.o1 s (List.mem_of_mem_drop h)
  -- another deed, or another key
  refine ⟨fun σ' H' => (∃ d k, σ' = [some (.ref st), some (.ref t), some (.ref n), some (.int kind), some (.str it), some (.int at_), some (.int spot), some (.ref R), some (.ref L), some (.ref M), some (.str d), some (.str k)] ∧ OkN ns k) ∧ Bt st H H' ∧ DrAt H' st scr, ?_, ?_⟩
  · refine ite2 (fun c => ?_) (fun c => ?_)
    · refine ⟨(by show 8 ≤ sizeLine; decide), fun p1 n1 => ?_⟩
      have q1 := same_new (o := .lst [.str "lock", .str "keep", .str "", .str "Look", .str "takes", .str "take", .str "look", .str "free"]) n1
      refine ⟨st, scr, _, rfl, d4.new q1, .inr ⟨p1, _, rfl, upd_same, d4.ne_new n1, by decide, by decide, fun x l hx dx => ?_⟩⟩
      have hx : x ∈ (["lock", "keep", "", "Look", "takes", "take", "look", "free"] : List Str).map V.str := hx
      obtain ⟨w, _, rfl⟩ := List.mem_map.mp hx
      exact ⟨⟨w, k, rfl, okk⟩, (b4.trans (Bt.same q1)).trans Bt.st, dx⟩
    · exact ⟨⟨d, it, rfl, good⟩, b4, d4⟩
  clear hR hp vl ev ev2 hr ep okk ins
  rintro σ' H5 ⟨⟨d, k, rfl, okk⟩, b5, d5⟩
  have B5 := B.bt hs b5
  obtain ⟨ws, hR, hp⟩ := B5.r
  have wl := pairs_len hp
  refine ⟨at_, rfl, .inl ⟨_, SqL.of hR, fun p1 n1 => ?_⟩⟩
  rw [cutV_take _ a0]
  have q1 := same_new (o := .lst (ws.take at_.toNat)) n1
  refine ⟨(by show 2 ≤ sizeLine; decide), fun T nT => ?_⟩
  have q2 := same_new (o := .tup [.str d, .str k]) nT
  refine ⟨(by show 1 ≤ sizeLine; decide), fun p2 n2 => ?_⟩
  have q3 := same_new (o := .lst [.ref T]) n2
  refine .inl ⟨_, _, q3 _ _ (q2 _ _ upd_same), upd_same, line_of (by rw [List.length_take, List.length_singleton]; omega), fun p3 n3 => ?_⟩
  have q4 := same_new (o := .lst (ws.take at_.toNat ++ [.ref T])) n3
  have q14 := ((q1.trans q2).trans q3).trans q4
  refine ⟨at_ + 1, rfl, .inl ⟨_, SqL.of (q14 _ _ hR), fun p4 n4 => ?_⟩⟩
  rw [cutV_drop _ (by omega)]
  have q5 := same_new (o := .lst (ws.drop (at_ + 1).toNat)) n4
  refine .inl ⟨_, _, q5 _ _ upd_same, upd_same, line_of (by rw [List.length_append, List.length_take, List.length_drop, List.length_singleton]; omega), fun p5 n5 => ?_⟩
  have q6 := same_new (o := .lst (ws.take at_.toNat ++ [.ref T] ++ ws.drop (at_ + 1).toNat)) n5
  have sx := (q14.trans q5).trans q6
  have eT := q6 _ _ (q5 _ _ (q4 _ _ (q3 _ _ (upd_same (H := upd H5 p1 (.lst (ws.take at_.toNat))) (a := T) (o := .tup [.str d, .str k])))))
  refine fin b5 d5 sx (Same.free (q14.trans q5) n5) upd_same (pairs_app (pairs_snoc (pairs_same (pairs_take hp _) sx) (show PairAt K _ (.ref T) (d, k) from ⟨T, rfl, SqT.of eT⟩)) (pairs_same (pairs_drop hp _) sx)) ?_ fun s hs => ?_
  · rw [List.length_append, List.length_append, List.length_take, List.length_drop, List.length_singleton]
    omega
  · rcases List.mem_append.mp hs with h | h
    · rcases List.mem_append.mp h with h | h
      · exact B.o1 s (List.mem_of_mem_take h)
      · rw [List.mem_singleton.mp h]
        exact okk
    · exact B.o1 s (List.mem_of_mem_drop h)
end
section
variable {P : Program} {w : World} {K : PySem.W.Frag} {mg : Str → Option Value} {base : Heap}
variable {t_LETTERS t_LONGEST_NAME : Tok} {a_DEEDS a_RESERVED a_BadName a_BadPlan a_ElseputError a_Plan a_UnknownName : Addr}
/-! ### what is told is the same -/
theorem same_ref {H : Hp} {t u : Addr} {xs ys : List V} {n : Nat} (h1 : H t = some (.lst xs)) (h2 : H u = some (.lst ys)) (hl : xs.length = ys.length) (h4 : ys.length ≤ 1000) (h : ∀ (i : Nat) (a b : V), xs[i]? = some a → ys[i]? = some b → SameV K H n a b) : SameV K H (n + 1) (.ref t) (.ref u) :=
  .inr (.inr (.inl ⟨t, u, _, _, rfl, rfl, h1, h2, hl, h4, h⟩))
theorem same_flat {H : Hp} {t u : Addr} {xs : List V} {n : Nat} (h1 : SqT K H t xs) (h2 : SqT K H u xs) (h4 : xs.length ≤ 1000) (hf : ∀ v ∈ xs, Fl v) : SameV K H (n + 2) (.ref t) (.ref u) :=
  same_tupN h1 h2 rfl h4 fun i a b ha hb => by
    rw [ha] at hb
    cases hb
    exact same_fl (hf a (List.mem_of_getElem? ha))
theorem same_pair {H : Hp} {x y : V} {p : Stp} {n : Nat} (h1 : PairAt K H x p) (h2 : PairAt K H y p) : SameV K H (n + 2) x y := by
  obtain ⟨t, rfl, h1⟩ := h1
  obtain ⟨u, rfl, h2⟩ := h2
  refine same_flat h1 h2 (by show 2 ≤ 1000; decide) fun v hv => ?_
  simp only [List.mem_cons, List.not_mem_nil, or_false] at hv
  rcases hv with rfl | rfl
  · exact .inr (.inl ⟨_, rfl⟩)
  · exact .inr (.inl ⟨_, rfl⟩)
theorem same_each {H : Hp} {xs ys : List V} {ps : List Stp} {n : Nat} (p1 : PairsIn K H xs ps) (p2 : PairsIn K H ys ps) : ∀ (i : Nat) (a b : V), xs[i]? = some a → ys[i]? = some b → SameV K H (n + 2) a b := fun i a b ha hb => by
  obtain ⟨p, e1, a1⟩ := pairs_at p1 ha
  obtain ⟨q, e2, a2⟩ := pairs_at p2 hb
  rw [e1] at e2
  cases e2
  exact same_pair a1 a2
theorem same_stepsL {H : Hp} {t u : Addr} {xs ys : List V} {ps : List Stp} {n : Nat} (h1 : H t = some (.lst xs)) (h2 : H u = some (.lst ys)) (p1 : PairsIn K H xs ps) (p2 : PairsIn K H ys ps) (hl : ps.length ≤ 1000) : SameV K H (n + 3) (.ref t) (.ref u) :=
  same_ref h1 h2 ((pairs_len p1).trans (pairs_len p2).symm) (by rw [pairs_len p2]; exact hl) (same_each p1 p2)
theorem same_stepsT {H : Hp} {t u : Addr} {ps : List Stp} {n : Nat} (h1 : StT K H t ps) (h2 : StT K H u ps) (hl : ps.length ≤ 1000) : SameV K H (n + 3) (.ref t) (.ref u) := by
  obtain ⟨xs, h1, p1⟩ := h1
  obtain ⟨ys, h2, p2⟩ := h2
  exact same_tupN h1 h2 ((pairs_len p1).trans (pairs_len p2).symm) (by rw [pairs_len p2]; exact hl) (same_each p1 p2)
theorem same_strsL {H : Hp} {t u : Addr} {zs : List Str} {n : Nat} (h1 : H t = some (.lst (zs.map V.str))) (h2 : H u = some (.lst (zs.map V.str))) (hl : zs.length ≤ 1000) : SameV K H (n + 2) (.ref t) (.ref u) :=
  same_ref h1 h2 rfl (by rw [List.length_map]; exact hl) fun i a b ha hb => by
    rw [ha] at hb
    cases hb
    rw [List.getElem?_map] at ha
    obtain ⟨z, hz, rfl⟩ := Option.map_eq_some_iff.mp ha
    exact same_str z
theorem same_non {H : Hp} {n : Nat} : SameV K H (n + 1) .non .non := same_fl (.inr (.inr (.inr rfl)))
theorem kinds_same {H : Hp} {u v : Addr} {a b : Bool} {n : Nat} (h1 : Kinds H u a b) (h2 : Kinds H v a b) : SameV K H (n + 2) (.ref u) (.ref v) :=
  same_flat (SqT.of h1) (SqT.of h2) (by show 4 ≤ 1000; decide) fun v hv => by
    simp only [List.mem_cons, List.not_mem_nil, or_false] at hv
    rcases hv with rfl | rfl | rfl | rfl <;> exact .inr (.inr (.inl ⟨_, rfl⟩))
theorem same_3 {H : Hp} {t u : Addr} {x0 x1 x2 y0 y1 y2 : V} {n : Nat} (h1 : SqT K H t [x0, x1, x2]) (h2 : SqT K H u [y0, y1, y2]) (a : SameV K H n x0 y0) (b : SameV K H n x1 y1) (c : SameV K H n x2 y2) : SameV K H (n + 1) (.ref t) (.ref u) :=
  same_tupN h1 h2 rfl (by show 3 ≤ 1000; decide) fun i x y hx hy => by
    match i, hx, hy with
    | 0, hx, hy => cases hx; cases hy; exact a
    | 1, hx, hy => cases hx; cases hy; exact b
    | 2, hx, hy => cases hx; cases hy; exact c
    | i + 3, hx, hy => cases hx
theorem same_l3 {H : Hp} {t u : Addr} {x0 x1 x2 y0 y1 y2 : V} {n : Nat} (h1 : H t = some (.lst [x0, x1, x2])) (h2 : H u = some (.lst [y0, y1, y2])) (a : SameV K H n x0 y0) (b : SameV K H n x1 y1) (c : SameV K H n x2 y2) : SameV K H (n + 1) (.ref t) (.ref u) :=
  same_ref h1 h2 rfl (by show 3 ≤ 1000; decide) fun i x y hx hy => by
    match i, hx, hy with
    | 0, hx, hy => cases hx; cases hy; exact a
    | 1, hx, hy => cases hx; cases hy; exact b
    | 2, hx, hy => cases hx; cases hy; exact c
    | i + 3, hx, hy => cases hx
theorem same_4 {H : Hp} {t u : Addr} {x0 x1 x2 x3 y0 y1 y2 y3 : V} {n : Nat} (h1 : SqT K H t [x0, x1, x2, x3]) (h2 : SqT K H u [y0, y1, y2, y3]) (a : SameV K H n x0 y0) (b : SameV K H n x1 y1) (c : SameV K H n x2 y2) (d : SameV K H n x3 y3) : SameV K H (n + 1) (.ref t) (.ref u) :=
  same_tupN h1 h2 rfl (by show 4 ≤ 1000; decide) fun i x y hx hy => by
    match i, hx, hy with
    | 0, hx, hy => cases hx; cases hy; exact a
    | 1, hx, hy => cases hx; cases hy; exact b
    | 2, hx, hy => cases hx; cases hy; exact c
    | 3, hx, hy => cases hx; cases hy; exact d
    | i + 4, hx, hy => cases hx
theorem drop_upd {H : Hp} {it : Addr} {o : HO} (h : H it = none) : ItX.dropH (upd H it o) it = H := by
  funext b
  unfold ItX.dropH
  by_cases e : b = it
  · simp [e, h]
  · simp [e, upd_ne e]
/-- what a plan shows, told in a tuple -/
def Told (K : PySem.W.Frag) (H : Hp) (t : Addr) (ps : List Stp) (l k : List Str) : Prop := ∃ u v w : Addr, SqT K H t [.str "made", .ref u, .ref v, .ref w] ∧ StT K H u ps ∧ TxT K H v l ∧ TxT K H w k
theorem Made.told {K : PySem.W.Frag} {H : Hp} {t : Addr} {ps : List Stp} {l k : List Str} (h : Made K H t ps l k) : Told K H t ps l k := by
  obtain ⟨u, v, w, h1, h2⟩ := h
  exact ⟨u, v, w, SqT.of h1, h2⟩
theorem Told.same {K : PySem.W.Frag} {H H' : Hp} {t : Addr} {ps : List Stp} {l k : List Str} (h : Told K H t ps l k) (s : Same H H') : Told K H' t ps l k := by
  obtain ⟨u, v, w, h1, h2, h3, h4⟩ := h
  exact ⟨u, v, w, SqT.same h1 s, h2.same s, SqT.same h3 s, SqT.same h4 s⟩
theorem Told.bt {K : PySem.W.Frag} {H H' : Hp} {q t : Addr} {ps : List Stp} {l k : List Str} (h : Told K H t ps l k) (hs : ∃ l, H q = some (.lst l)) (s : Bt q H H') : Told K H' t ps l k := by
  obtain ⟨u, v, w, h1, h2, h3, h4⟩ := h
  exact ⟨u, v, w, SqT.bt h1 (NT.lst hs) s, h2.bt (NT.lst hs) s, SqT.bt h3 (NT.lst hs) s, SqT.bt h4 (NT.lst hs) s⟩
theorem told_same {H : Hp} {t u : Addr} {ps : List Stp} {l k : List Str} {n : Nat} (hp : ps.length ≤ 1000) (hl : l.length ≤ 1000) (hk : k.length ≤ 1000) (h1 : Told K H t ps l k) (h2 : Told K H u ps l k) : SameV K H (n + 4) (.ref t) (.ref u) := by
  obtain ⟨a, b, c, g1, g2, g3, g4⟩ := h1
  obtain ⟨a', b', c', k1, k2, k3, k4⟩ := h2
  exact same_4 g1 k1 (same_str _) (same_stepsT g2 k2 hp) (same_strs g3 k3 hl) (same_strs g4 k4 hk)
theorem try_same {H : Hp} {t u : Addr} {ps : List Stp} {lk kp : List Str} {n : Nat} (hp : ps.length ≤ 1000) (h1 : TryAt K H t ps lk kp) (h2 : TryAt K H u ps lk kp) : SameV K H (n + 4) (.ref t) (.ref u) := by
  unfold TryAt at h1 h2
  cases hb : bad1 (planNames ps lk kp) with
  | some z =>
    rw [hb] at h1 h2
    obtain ⟨v, a1, a2⟩ := h1
    obtain ⟨w, b1, b2⟩ := h2
    exact same_3 (SqT.of a1) (SqT.of b1) (same_str _) (kinds_same a2 b2) (same_str _)
  | none =>
    rw [hb] at h1 h2
    have h1 : if planFits ps lk kp = true then _ else _ := h1
    have h2 : if planFits ps lk kp = true then _ else _ := h2
    have among_len : ∀ zs : List Str, (among ps zs).length ≤ 1000 := fun zs => Nat.le_trans (List.length_filter_le _ _) (Nat.le_trans looked_len hp)
    by_cases hn : planFits ps lk kp = true
    · rw [if_pos hn] at h1 h2
      exact told_same hp (among_len _) (among_len _) h1.told h2.told
    · rw [if_neg hn] at h1 h2
      obtain ⟨v, a1, a2⟩ := h1
      obtain ⟨w, b1, b2⟩ := h2
      exact same_3 (SqT.of a1) (SqT.of b1) (same_str _) (kinds_same a2 b2) same_non
theorem TryAt.same {K : PySem.W.Frag} {H H' : Hp} {t : Addr} {ps : List Stp} {lk kp : List Str} (h : TryAt K H t ps lk kp) (s : Same H H') : TryAt K H' t ps lk kp := by
  unfold TryAt at *
  cases hb : bad1 (planNames ps lk kp) with
  | some z =>
    rw [hb] at h
    obtain ⟨u, h1, h2⟩ := h
    exact ⟨u, s _ _ h1, s _ _ h2⟩
  | none =>
    rw [hb] at h
    have h : if planFits ps lk kp = true then _ else _ := h
    show if planFits ps lk kp = true then _ else _
    by_cases hn : planFits ps lk kp = true
    · rw [if_pos hn] at h ⊢
      obtain ⟨u, v, w, h1, h2, h3, h4⟩ := h
      exact ⟨u, v, w, s _ _ h1, h2.same s, SqT.same h3 s, SqT.same h4 s⟩
    · rw [if_neg hn] at h ⊢
      obtain ⟨u, h1, h2⟩ := h
      exact ⟨u, s _ _ h1, s _ _ h2⟩
def sp__law_shows (K : PySem.W.Frag) : Sp := fun vs H Q _ => ∃ (a d : Addr) (ps : List Stp) (l k : List Str), vs = [.ref a, .ref d] ∧ PlAt K H a ps l k ∧ Told K H d ps l k ∧ ps.length < 64 ∧ l.length ≤ 1000 ∧ k.length ≤ 1000 ∧ ∀ H' : Hp, Same H H' → Q (.bl true) H'
theorem len__law_shows {vs : List V} {H : Hp} {Q : VK} {E : XK} (h : sp__law_shows K vs H Q E) : vs.length = 2 := by
  obtain ⟨_, _, _, _, _, rfl, _⟩ := h
  rfl
theorem ok__law_shows {f : Addr} {fd : FuncData} {f__law_same : Addr} {fd__law_same : FuncData} {f_Plan___iter__ : Addr} {f_Plan___len__ : Addr} {fd_Plan___len__ : FuncData} (F : Fun K "_law_shows" "_law_shows" s__law_shows f fd) (T : Gs K mg t_LETTERS t_LONGEST_NAME a_DEEDS a_RESERVED a_BadName a_BadPlan a_ElseputError a_Plan a_UnknownName) (c__law_same : Cal P w K mg base CX0 26 "_law_same" f__law_same fd__law_same ["_law_actual", "_law_due_here"] (sp__law_same K)) (c_Plan___iter__ : CalIt P w K mg base CX0 1 a_Plan f_Plan___iter__ (sp_Plan___iter__ K)) (c_Plan___len__ : CalL P w K mg base CX0 1 a_Plan f_Plan___len__ fd_Plan___len__ ["self"] (sp_Plan___len__ K)) : FnOk P w K mg base CX0 27 f fd ["_law_plan", "_law_due_here"] (sp__law_shows K) := by
  refine F.ok sc__law_shows (fun vs H Q E h => len__law_shows h) (fun cdv A outer s H vs Q E hr h => ?_)
  obtain ⟨a, d, ps, l, k, rfl, hA, hT, few, fl, fk, q⟩ := h
  obtain ⟨C, dx, t1, l1, k1, hC, ha, h1, h2, h3⟩ := id hA
  cases hC.symm.trans T.n_Plan
  refine ⟨_, (pss_cons (ps_if (pt_not (pt_t K (pe_call c__law_same.G (hr.mono (by first | decide | omega)) rfl c__law_same.m c__law_same.kp c__law_same.b .nil pass0 (pa_cons (pe_tup (pa_cons pe_str (pa_cons (e_f K (v_ 0)) (pa_cons (e_f K (v_ 0)) (pa_cons (e_f K (v_ 0)) pa_nil))))) (pa_cons (v_ 1) pa_nil))))) (pss_one (ps_ret pe_bl)) pss_nil) (pss_one (ps_ret (pe_andM (pe_c (eqK K hr.units) (pe_callB (call_lenO c_Plan___len__.le c_Plan___len__.G (hr.mono (by first | decide | omega)) c_Plan___len__.b) (by rfl) T.z_len PySem.boot_len (pa_cons (v_ 0) pa_nil)) (pe_callB (lenK K) (by rfl) T.z_len PySem.boot_len (pa_cons (e_x K (v_ 1) pe_int) pa_nil))) (pe_one (pe_call c__law_same.G (hr.mono (by first | decide | omega)) rfl c__law_same.m c__law_same.kp c__law_same.b .nil pass0 (pa_cons (pe_lc (own := [("_law_step", 2)]) (g := gName 2) (by rfl) sc__law_shows.nd (pi_ownT c_Plan___iter__.oi c_Plan___iter__.F (hr.mono (by first | decide | omega)) pass0 (v_ 0)) (blkOk_by (N := ["_law_plan", "_law_due_here", "_law_step"]) (sc := defScope s__law_shows) (by decide +kernel)) (fun _ _ _ _ _ => pg_name (i := 2) sc__law_shows.nd rfl (Or.inl rfl)) (fun _ _ _ _ _ => pts_nil) (fun _ _ _ _ _ => (v_ 2))) (pa_cons (pe_callTy (listK K) (by rfl) T.z_list (by decide +kernel) (pa_cons (e_x K (v_ 1) pe_int) pa_nil)) pa_nil)))))))), ?_⟩
  refine ⟨a, a_Plan, dx, _, _, rfl, ha, T.cl_Plan, T.na_Plan_steps, rfl, ?_⟩
  refine ⟨a, a_Plan, dx, _, _, rfl, ha, T.cl_Plan, T.na_Plan_locked, rfl, ?_⟩
  refine ⟨a, a_Plan, dx, _, _, rfl, ha, T.cl_Plan, T.na_Plan_kept, rfl, (by show 4 ≤ sizeLine; decide), fun u nu => ?_⟩
  have s1 := same_new (o := .tup [.str "made", .ref t1, .ref l1, .ref k1]) nu
  have hu : Told K (upd H u (.tup [.str "made", .ref t1, .ref l1, .ref k1])) u ps l k := ⟨t1, l1, k1, SqT.of upd_same, h1.same s1, SqT.same h2 s1, SqT.same h3 s1⟩
  refine ⟨_, _, rfl, told_same (by omega) fl fk hu (hT.same s1), ?_⟩
  generalize upd H u (.tup [.str "made", .ref t1, .ref l1, .ref k1]) = H1 at s1 ⊢
  refine ite2 (fun e => nomatch e) (fun _ => ?_)
  obtain ⟨x, y, z, g1, ⟨xs, g2, gp⟩, g3, g4⟩ := id hT
  refine ⟨a, dx, _, rfl, s1 _ _ ha, a, ps, l, k, rfl, hA.same s1, _, rfl, by omega, by omega, ?_⟩
  refine ⟨_, .inr (SqT.same g1 s1), _, rfl, ?_⟩
  refine .inl ⟨_, .inr (SqT.same g2 s1), ?_⟩
  have xl := pairs_len gp
  refine ite2 (fun e => ?_) (fun e => ?_)
  · refine ⟨a, dx, _, rfl, s1 _ _ ha, fun m hm => ⟨a, ps, l, k, rfl, hA.same s1, fun t2 us it ht2 hus nit hit => ⟨t2, it, rfl, upd_same, Nat.le_trans hm hit, ?_⟩⟩⟩
    rw [drop_upd nit]
    intro D nD
    have ul := pairs_len hus
    refine lc_it (walk_tup (xs := us)) (fun j H2 => Same H1 H2 ∧ H2 D = some (.lst (us.take j))) ⟨same_new nD, upd_same⟩ (fun _ _ _ h => SqT.same ht2 h.1) ?_ ?_
    · rintro j v H3 H4 hj ⟨s3, hD⟩ ⟨rfl, hv⟩
      refine ⟨rfl, ?_⟩
      refine ⟨_, hD, line_lt (by rw [List.length_take]; omega), fun b o hb => ?_, ?_⟩
      · rw [upd_ne (ne_of_none hb nD)]
        exact s3 _ _ hb
      · rw [upd_same, take_snoc hv]
    rintro H2 ⟨s2, hD⟩
    rw [List.take_length] at hD
    have s12 := s1.trans s2
    refine ⟨_, .inr (SqT.same g1 s12), _, rfl, x, _, rfl, .inr (SqT.same g2 s12), fun l2 nl2 => ?_⟩
    have s3 := same_new (o := .lst xs) nl2
    refine ⟨_, _, rfl, same_stepsL (s3 _ _ hD) upd_same (pairs_same hus (s2.trans s3)) (pairs_same gp (s12.trans s3)) (by omega), ?_⟩
    exact q _ (s12.trans s3)
  · exact absurd (decide_eq_true (by omega)) e
end
section
variable {P : Program} {w : World} {K : PySem.W.Frag} {mg : Str → Option Value} {base : Heap}
variable {t_LETTERS t_LONGEST_NAME : Tok} {a_DEEDS a_RESERVED a_BadName a_BadPlan a_ElseputError a_Plan a_UnknownName : Addr}
def spLaw (K : PySem.W.Frag) : Sp := fun vs H Q _ => ∃ (a : Addr) (ns : List Int), vs = [.ref a] ∧ SqL K H a (ns.map V.int) ∧ ns.length ≤ 63 ∧ ∀ H', Q (.bl true) H'
abbrev sp_law := spLaw
theorem len_law {vs : List V} {H : Hp} {Q : VK} {E : XK} (h : sp_law K vs H Q E) : vs.length = 1 := by
  obtain ⟨_, _, rfl, _⟩ := h
  rfl
theorem take_map {zs : List Str} (k : Nat) : (zs.map V.str).take k = (zs.take k).map V.str := (List.map_take ..).symm
theorem four_nat {r : Int} (r0 : 0 ≤ r) (r1 : r < 4) : 1 ≤ (4 - r).toNat ∧ (4 - r).toNat ≤ 4 ∧ 0 ≤ 4 - r := by omega
theorem among_nil {ps : List Stp} : among ps [] = [] := by
  unfold among
  rw [List.filter_eq_nil_iff]
  intro z _ h
  exact nomatch of_decide_eq_true h
theorem among_len {ps : List Stp} {zs : List Str} (h : ps.length ≤ 1000) : (among ps zs).length ≤ 1000 := Nat.le_trans (List.length_filter_le _ _) (Nat.le_trans looked_len h)
theorem Wild.mem {cs lk kp : List Str} {ps : List Stp} (w : Wild cs ps) (l : ∀ z ∈ lk, z ∈ cs) (k : ∀ z ∈ kp, z ∈ cs) : ∀ z ∈ planNames ps lk kp, z ∈ cs := fun z hz => by
  unfold planNames at hz
  rcases List.mem_append.mp hz with h | h
  · rcases List.mem_append.mp h with h | h
    · obtain ⟨s, hs, rfl⟩ := List.mem_map.mp h
      exact w.sub s hs
    · exact l z h
  · exact k z h
theorem Wild.made {K : PySem.W.Frag} {H : Hp} {t : Addr} {cs lk kp : List Str} {ps : List Stp} (w : Wild cs ps) (nc : cs ≠ []) (hn : ∀ z ∈ cs, isName z = true) (l : lk.Nodup ∧ ∀ z ∈ lk, z ∈ cs) (k : kp.Nodup ∧ ∀ z ∈ kp, z ∈ cs) (h : TryAt K H t ps lk kp) : Told K H t ps (among ps lk) (among ps kp) := by
  unfold TryAt at h
  rw [bad_none fun z hz => hn z (w.mem l.2 k.2 z hz)] at h
  have g : planFits ps lk kp = true := by
    unfold planFits
    rw [w.fits (w.ne nc), keys_fits w l.1 l.2, keys_fits w k.1 k.2]
    rfl
  have h : if planFits ps lk kp = true then _ else _ := h
  rw [if_pos g] at h
  exact h.told
/-- what the law holds on to -/
structure Mn (K : PySem.W.Frag) (H : Hp) (st scr p R X Y x d : Addr) (zs : List Str) (ps : List Stp) (lk kp : List Str) : Prop where
  dr : DrAt H st scr
  p : H p = some (.lst (zs.map V.str))
  r : ∃ us, H R = some (.lst us) ∧ PairsIn K H us ps
  l : H X = some (.lst (lk.map V.str))
  m : H Y = some (.lst (kp.map V.str))
  pl : PlAt K H x ps (among ps lk) (among ps kp)
  due : Told K H d ps (among ps lk) (among ps kp)
theorem Mn.same {K : PySem.W.Frag} {H H' : Hp} {st scr p R X Y x d : Addr} {zs : List Str} {ps : List Stp} {lk kp : List Str} (h : Mn K H st scr p R X Y x d zs ps lk kp) (s : Same H H') : Mn K H' st scr p R X Y x d zs ps lk kp := by
  obtain ⟨us, e, hu⟩ := h.r
  exact ⟨h.dr.new s, s _ _ h.p, ⟨us, s _ _ e, pairs_same hu s⟩, s _ _ h.l, s _ _ h.m, h.pl.same s, h.due.same s⟩
theorem Mn.bt {K : PySem.W.Frag} {H H' : Hp} {q st scr p R X Y x d : Addr} {zs : List Str} {ps : List Stp} {lk kp : List Str} (h : Mn K H st scr p R X Y x d zs ps lk kp) (hq : ∃ l, H q = some (.lst l)) (b : Bt q H H') (dr : DrAt H' st scr) (n1 : p ≠ q) (n2 : R ≠ q) (n3 : X ≠ q) (n4 : Y ≠ q) : Mn K H' st scr p R X Y x d zs ps lk kp :=
  ⟨dr, b _ _ n1 h.p, stL_bt h.r n2 hq b, b _ _ n3 h.l, b _ _ n4 h.m, h.pl.bt hq b, h.due.bt hq b⟩
structure Hnd (H : Hp) (h L0 L1 L2 : Addr) (n : Nat) : Prop where
  hh : H h = some (.lst [.ref L0, .ref L1, .ref L2])
  ea : ∀ L, L = L0 ∨ L = L1 ∨ L = L2 → ∃ v, H L = some (.lst v) ∧ v.length ≤ n
theorem Hnd.same {H H' : Hp} {h L0 L1 L2 : Addr} {n : Nat} (g : Hnd H h L0 L1 L2 n) (s : Same H H') : Hnd H' h L0 L1 L2 n := ⟨s _ _ g.hh, fun L hL => by
  obtain ⟨v, e, l⟩ := g.ea L hL
  exact ⟨v, s _ _ e, l⟩⟩
theorem Hnd.put {H : Hp} {h L0 L1 L2 L : Addr} {n m : Nat} {w : List V} (g : Hnd H h L0 L1 L2 n) (ne : L ≠ h) (lw : w.length ≤ m) (nm : n ≤ m) : Hnd (upd H L (.lst w)) h L0 L1 L2 m := by
  refine ⟨by rw [upd_ne ne.symm]; exact g.hh, fun M hM => ?_⟩
  by_cases e : M = L
  · rw [e]
    exact ⟨w, upd_same, lw⟩
  · obtain ⟨v, e2, l⟩ := g.ea M hM
    exact ⟨v, by rw [upd_ne e]; exact e2, by omega⟩
theorem ok_law {f : Addr} {fd : FuncData} {f__law_state : Addr} {fd__law_state : FuncData} {f__law_names : Addr} {fd__law_names : FuncData} {f__law_wild_steps : Addr} {fd__law_wild_steps : FuncData} {f__law_mixed : Addr} {fd__law_mixed : FuncData} {f__law_due : Addr} {fd__law_due : FuncData} {f__law_shows : Addr} {fd__law_shows : FuncData} {f__law_some : Addr} {fd__law_some : FuncData} {f__law_spoiled : Addr} {fd__law_spoiled : FuncData} {f__law_try : Addr} {fd__law_try : FuncData} {f__law_same : Addr} {fd__law_same : FuncData} {f__law_draw : Addr} {fd__law_draw : FuncData} {f_Plan___init__ : Addr} {fd_Plan___init__ : FuncData} {e1_Plan___init__ e2_Plan___init__ : Addr} (F : Fun K "law" "law" s_law f fd) (T : Gs K mg t_LETTERS t_LONGEST_NAME a_DEEDS a_RESERVED a_BadName a_BadPlan a_ElseputError a_Plan a_UnknownName) (c__law_state : Cal P w K mg base CX0 1 "_law_state" f__law_state fd__law_state ["_law_script"] (sp__law_state K)) (c__law_names : Cal P w K mg base CX0 2 "_law_names" f__law_names fd__law_names ["_law_state_here", "_law_many"] (sp__law_names K)) (c__law_wild_steps : Cal P w K mg base CX0 3 "_law_wild_steps" f__law_wild_steps fd__law_wild_steps ["_law_state_here", "_law_carried"] (sp__law_wild_steps K)) (c__law_mixed : Cal P w K mg base CX0 2 "_law_mixed" f__law_mixed fd__law_mixed ["_law_state_here", "_law_row"] (sp__law_mixed K)) (c__law_due : Cal P w K mg base CX0 2 "_law_due" f__law_due fd__law_due ["_law_steps", "_law_row_keys", "_law_held_keys", "_law_names_here"] (sp__law_due K)) (c__law_shows : Cal P w K mg base CX0 27 "_law_shows" f__law_shows fd__law_shows ["_law_plan", "_law_due_here"] (sp__law_shows K)) (c__law_some : Cal P w K mg base CX0 2 "_law_some" f__law_some fd__law_some ["_law_state_here", "_law_row", "_law_share"] (sp__law_some K)) (c__law_spoiled : Cal P w K mg base CX0 4 "_law_spoiled" f__law_spoiled fd__law_spoiled ["_law_state_here", "_law_plan_rows", "_law_names_here"] (sp__law_spoiled K)) (c__law_try : Cal P w K mg base CX0 6 "_law_try" f__law_try fd__law_try ["_law_steps", "_law_row_keys", "_law_held_keys"] (sp__law_try K)) (c__law_same : Cal P w K mg base CX0 26 "_law_same" f__law_same fd__law_same ["_law_actual", "_law_due_here"] (sp__law_same K)) (c__law_draw : Cal P w K mg base CX0 1 "_law_draw" f__law_draw fd__law_draw ["_law_state_here", "_law_many"] (sp__law_draw K)) (c_Plan___init__ : CalK P w K mg base (L2.CX P w) 4 "Plan" a_Plan f_Plan___init__ fd_Plan___init__ ["self", "steps", "locked", "kept"] 2 "locked" "kept" e1_Plan___init__ e2_Plan___init__ (sp_Plan___init__ K)) : FnOk P w K mg base CX0 60 f fd ["_law_script"] (sp_law K) := by
  refine F.ok sc_law (fun vs H Q E h => len_law h) (fun cdv A outer s H vs Q E hr h => ?_)
  obtain ⟨a, ns, rfl, hS, hl, q⟩ := h
  refine ⟨_, (pss_cons (ps_set (i := 1) sc_law.nd rfl (.inl rfl) (pe_call c__law_state.G (hr.mono (by first | decide | omega)) rfl c__law_state.m c__law_state.kp c__law_state.b .nil pass0 (pa_cons (v_ 0) pa_nil))) (pss_cons (ps_set (i := 2) sc_law.nd rfl (.inl rfl) (pe_call c__law_names.G (hr.mono (by first | decide | omega)) rfl c__law_names.m c__law_names.kp c__law_names.b .nil pass0 (pa_cons (v_ 1) (pa_cons pe_int pa_nil)))) (pss_cons (ps_set (i := 3) sc_law.nd rfl (.inl rfl) (pe_slice (slK K) (v_ 2) po_none (po_some (pe_op op_subM pe_int (pe_call c__law_draw.G (hr.mono (by first | decide | omega)) rfl c__law_draw.m c__law_draw.kp c__law_draw.b .nil pass0 (pa_cons (v_ 1) (pa_cons pe_int pa_nil))))))) (pss_cons (ps_set (i := 4) sc_law.nd rfl (.inl rfl) (pe_call c__law_wild_steps.G (hr.mono (by first | decide | omega)) rfl c__law_wild_steps.m c__law_wild_steps.kp c__law_wild_steps.b .nil pass0 (pa_cons (v_ 1) (pa_cons (v_ 3) pa_nil)))) (pss_cons (ps_set (i := 5) sc_law.nd rfl (.inl rfl) (pe_call c__law_mixed.G (hr.mono (by first | decide | omega)) rfl c__law_mixed.m c__law_mixed.kp c__law_mixed.b .nil pass0 (pa_cons (v_ 1) (pa_cons (pe_call c__law_some.G (hr.mono (by first | decide | omega)) rfl c__law_some.m c__law_some.kp c__law_some.b .nil pass0 (pa_cons (v_ 1) (pa_cons (v_ 3) (pa_cons pe_int pa_nil)))) pa_nil)))) (pss_cons (ps_set (i := 6) sc_law.nd rfl (.inl rfl) (pe_call c__law_mixed.G (hr.mono (by first | decide | omega)) rfl c__law_mixed.m c__law_mixed.kp c__law_mixed.b .nil pass0 (pa_cons (v_ 1) (pa_cons (pe_call c__law_some.G (hr.mono (by first | decide | omega)) rfl c__law_some.m c__law_some.kp c__law_some.b .nil pass0 (pa_cons (v_ 1) (pa_cons (v_ 3) (pa_cons pe_int pa_nil)))) pa_nil)))) (pss_cons (ps_set (i := 7) sc_law.nd rfl (.inl rfl) (pe_lst (pa_cons (pe_callTy (listK K) (by rfl) T.z_list (by decide +kernel) (pa_cons (v_ 4) pa_nil)) (pa_cons (pe_callTy (listK K) (by rfl) T.z_list (by decide +kernel) (pa_cons (v_ 5) pa_nil)) (pa_cons (pe_callTy (listK K) (by rfl) T.z_list (by decide +kernel) (pa_cons (v_ 6) pa_nil)) pa_nil))))) (pss_cons (ps_set (i := 8) sc_law.nd rfl (.inl rfl) (pe_mkAll c_Plan___init__ (hr.mono (by first | decide | omega)) rfl passL (pa_cons (e_x K (v_ 7) pe_int) pa_nil) (pk_cons (e_x K (v_ 7) pe_int) (pk_cons (e_x K (v_ 7) pe_int) pk_nil)))) (pss_cons (ps_set (i := 9) sc_law.nd rfl (.inl rfl) (pe_call c__law_due.G (hr.mono (by first | decide | omega)) rfl c__law_due.m c__law_due.kp c__law_due.b .nil pass0 (pa_cons (v_ 4) (pa_cons (v_ 5) (pa_cons (v_ 6) (pa_cons (v_ 2) pa_nil)))))) (pss_cons (ps_if (PW.pt (pw_or (pt_c (neK K hr.units) (e_x K (v_ 9) pe_int) pe_str) (pw_or1 (pt_not (pt_t K (pe_call c__law_same.G (hr.mono (by first | decide | omega)) rfl c__law_same.m c__law_same.kp c__law_same.b .nil pass0 (pa_cons (v_ 7) (pa_cons (pe_lst (pa_cons (v_ 4) (pa_cons (v_ 5) (pa_cons (v_ 6) pa_nil)))) pa_nil)))))))) (pss_one (ps_ret pe_bl)) pss_nil) (pss_cons (ps_for PassesOwn.never rfl (pi_list (v_ 7)) (pg_name (i := 10) sc_law.nd rfl (.inl rfl)) (pss_one (ps_expr (pe_bm0 PySem.F.plainAttrs_list PySem.F.slot_list_reverse PySem.F.type_list_reverse mt_reverseL (v_ 10))))) (pss_cons (ps_expr (pe_bm PySem.F.plainAttrs_list PySem.F.slot_list_append PySem.F.type_list_append mt_append (e_x K (v_ 7) pe_int) (pa_cons (pe_tup (pa_cons pe_str (pa_cons (e_x K (v_ 2) pe_int) pa_nil))) pa_nil))) (pss_cons (ps_expr (pe_bm PySem.F.plainAttrs_list PySem.F.slot_list_append PySem.F.type_list_append mt_append (e_x K (v_ 7) pe_int) (pa_cons (e_x K (v_ 2) pe_int) pa_nil))) (pss_cons (ps_expr (pe_bm PySem.F.plainAttrs_list PySem.F.slot_list_append PySem.F.type_list_append mt_append (e_x K (v_ 7) pe_int) (pa_cons (e_x K (v_ 2) pe_int) pa_nil))) (pss_cons (ps_if (pt_not (pt_t K (pe_call c__law_shows.G (hr.mono (by first | decide | omega)) rfl c__law_shows.m c__law_shows.kp c__law_shows.b .nil pass0 (pa_cons (v_ 8) (pa_cons (v_ 9) pa_nil))))) (pss_one (ps_ret pe_bl)) pss_nil) (pss_cons (ps_if (pt_not (pt_t K (pe_call c__law_shows.G (hr.mono (by first | decide | omega)) rfl c__law_shows.m c__law_shows.kp c__law_shows.b .nil pass0 (pa_cons (pe_mkNo c_Plan___init__ (hr.mono (by first | decide | omega)) rfl passL (pa_cons (pe_callTy (listK K) (by rfl) T.z_list (by decide +kernel) (pa_cons (v_ 4) pa_nil)) pa_nil) pk_nil) (pa_cons (pe_tup (pa_cons pe_str (pa_cons (pe_callTy (tupleK K) (by rfl) T.z_tuple (by decide +kernel) (pa_cons (v_ 4) pa_nil)) (pa_cons (pe_tup pa_nil) (pa_cons (pe_tup pa_nil) pa_nil))))) pa_nil))))) (pss_one (ps_ret pe_bl)) pss_nil) (pss_cons (ps_if (pt_not (pt_t K (pe_call c__law_shows.G (hr.mono (by first | decide | omega)) rfl c__law_shows.m c__law_shows.kp c__law_shows.b .nil pass0 (pa_cons (pe_mkOne c_Plan___init__ (hr.mono (by first | decide | omega)) rfl passL (pa_cons (pe_callTy (listK K) (by rfl) T.z_list (by decide +kernel) (pa_cons (v_ 4) pa_nil)) pa_nil) (pk_cons (pe_callTy (tupleK K) (by rfl) T.z_tuple (by decide +kernel) (pa_cons (v_ 5) pa_nil)) pk_nil)) (pa_cons (pe_tup (pa_cons pe_str (pa_cons (pe_callTy (tupleK K) (by rfl) T.z_tuple (by decide +kernel) (pa_cons (v_ 4) pa_nil)) (pa_cons (e_x K (v_ 9) pe_int) (pa_cons (pe_tup pa_nil) pa_nil))))) pa_nil))))) (pss_one (ps_ret pe_bl)) pss_nil) (pss_cons (ps_if (pt_not (pt_t K (pe_call c__law_shows.G (hr.mono (by first | decide | omega)) rfl c__law_shows.m c__law_shows.kp c__law_shows.b .nil pass0 (pa_cons (pe_mkTwo c_Plan___init__ (hr.mono (by first | decide | omega)) rfl passL (pa_cons (pe_callTy (listK K) (by rfl) T.z_list (by decide +kernel) (pa_cons (v_ 4) pa_nil)) pa_nil) (pk_cons (pe_callTy (tupleK K) (by rfl) T.z_tuple (by decide +kernel) (pa_cons (v_ 6) pa_nil)) pk_nil)) (pa_cons (pe_tup (pa_cons pe_str (pa_cons (pe_callTy (tupleK K) (by rfl) T.z_tuple (by decide +kernel) (pa_cons (v_ 4) pa_nil)) (pa_cons (pe_tup pa_nil) (pa_cons (e_x K (v_ 9) pe_int) pa_nil))))) pa_nil))))) (pss_one (ps_ret pe_bl)) pss_nil) (pss_cons (ps_for PassesOwn.never rfl (pi_range1 rfl T.z_range (pa_cons pe_int pa_nil)) (pg_name (i := 11) sc_law.nd rfl (.inl rfl)) (pss_cons (ps_set (i := 12) sc_law.nd rfl (.inl rfl) (pe_call c__law_spoiled.G (hr.mono (by first | decide | omega)) rfl c__law_spoiled.m c__law_spoiled.kp c__law_spoiled.b .nil pass0 (pa_cons (v_ 1) (pa_cons (pe_tup (pa_cons (v_ 4) (pa_cons (v_ 5) (pa_cons (v_ 6) pa_nil)))) (pa_cons (v_ 2) pa_nil))))) (Evl.pss_cut (ps_if (pt_c (eqK K hr.units) (pe_call c__law_draw.G (hr.mono (by first | decide | omega)) rfl c__law_draw.m c__law_draw.kp c__law_draw.b .nil pass0 (pa_cons (v_ 1) (pa_cons pe_int pa_nil))) pe_int) (pss_one (ps_set (i := 12) sc_law.nd rfl (.inl rfl) (pe_call c__law_spoiled.G (hr.mono (by first | decide | omega)) rfl c__law_spoiled.m c__law_spoiled.kp c__law_spoiled.b .nil pass0 (pa_cons (v_ 1) (pa_cons (v_ 12) (pa_cons (v_ 2) pa_nil)))))) pss_nil) (pss_cons (ps_set (i := 13) sc_law.nd rfl (.inl rfl) (pe_call c__law_try.G (hr.mono (by first | decide | omega)) rfl c__law_try.m c__law_try.kp c__law_try.b .nil pass0 (pa_cons (pe_callTy (listK K) (by rfl) T.z_list (by decide +kernel) (pa_cons (e_x K (v_ 12) pe_int) pa_nil)) (pa_cons (pe_callTy (listK K) (by rfl) T.z_list (by decide +kernel) (pa_cons (e_x K (v_ 12) pe_int) pa_nil)) (pa_cons (pe_callTy (listK K) (by rfl) T.z_list (by decide +kernel) (pa_cons (e_x K (v_ 12) pe_int) pa_nil)) pa_nil))))) (pss_one (ps_if (pt_not (pt_t K (pe_call c__law_same.G (hr.mono (by first | decide | omega)) rfl c__law_same.m c__law_same.kp c__law_same.b .nil pass0 (pa_cons (v_ 13) (pa_cons (pe_call c__law_due.G (hr.mono (by first | decide | omega)) rfl c__law_due.m c__law_due.kp c__law_due.b .nil pass0 (pa_cons (e_x K (v_ 12) pe_int) (pa_cons (e_x K (v_ 12) pe_int) (pa_cons (e_x K (v_ 12) pe_int) (pa_cons (v_ 2) pa_nil))))) pa_nil))))) (pss_one (ps_ret pe_bl)) pss_nil)))))) (pss_one (ps_ret (pe_call c__law_shows.G (hr.mono (by first | decide | omega)) rfl c__law_shows.m c__law_shows.kp c__law_shows.b .nil pass0 (pa_cons (v_ 8) (pa_cons (v_ 9) pa_nil)))))))))))))))))))))))), ?_⟩
  refine ⟨a, ns, rfl, hS, hl, fun H1 st scr s1 n1 n2 d1 => ?_⟩
  refine ⟨st, scr, 5, rfl, d1, by decide, fun H2 p zs b2 d2 np hp lz hz nz => ?_⟩
  have pst : p ≠ st := d1.ne_new np
  clear b2 d1 s1 hS n1 n2 np
  -- the keys
  refine ⟨st, scr, 4, rfl, d2, by decide, many_small (by decide) (by decide), fun r l r0 r1 d3 => ?_⟩
  obtain ⟨f1, f2, f0⟩ := four_nat r0 r1
  have hp3 : upd H2 st (.lst l) p = some (.lst (zs.map V.str)) := by rw [upd_ne pst]; exact hp
  generalize upd H2 st (.lst l) = H3 at d3 hp3 ⊢
  refine ⟨4 - r, rfl, .inl ⟨_, SqL.of hp3, fun u nu => ?_⟩⟩
  rw [cutV_take _ f0, take_map]
  have us : u ≠ st := d3.ne_new nu
  have sm := same_new (o := .lst ((zs.take (4 - r).toNat).map V.str)) nu
  have hu : (upd H3 u (.lst ((zs.take (4 - r).toNat).map V.str))) u = some (.lst ((zs.take (4 - r).toNat).map V.str)) := upd_same
  have hp4 := sm _ _ hp3
  have d4 := d3.new sm
  generalize upd H3 u (.lst ((zs.take (4 - r).toNat).map V.str)) = H4 at hu d4 hp4 ⊢
  have lc : (zs.take (4 - r).toNat).length ≤ 4 ∧ zs.take (4 - r).toNat ≠ [] := ⟨by rw [List.length_take]; omega, fun e => by have := congrArg List.length e; rw [List.length_take, List.length_nil] at this; omega⟩
  have nc : (zs.take (4 - r).toNat).Nodup := nz.sublist (List.take_sublist _ _)
  have cz : ∀ z ∈ zs.take (4 - r).toNat, z ∈ zs := fun z h => List.mem_of_mem_take h
  have hc : ∀ z ∈ zs.take (4 - r).toNat, isName z = true ∧ z.length ≤ 12 := fun z h => hz z (List.mem_of_mem_take h)
  generalize zs.take (4 - r).toNat = cs at hu lc nc hc cz
  clear sm d3 hp3 nu f1 f2 f0 r0 r1 d2 hp
  -- the steps
  refine ⟨st, scr, u, cs, rfl, d4, hu, us, nc, lc.1, fun H5 R ps b5 d5 nR hR w => ?_⟩
  have Rst : R ≠ st := d4.ne_new nR
  have hp5 := b5 _ _ pst hp4
  have hu5 := b5 _ _ us hu
  clear b5 d4 hu hp4 nR
  -- the keys to lock
  refine ⟨st, scr, u, 3, cs, rfl, d5, hu5, us, by omega, by decide, by decide, fun H6 D1 l1 b6 d6 nD1 hD1 sl1 => ?_⟩
  have ll1 := sl1.length_le
  refine ⟨st, scr, D1, l1.map V.str, rfl, d6, hD1, d5.ne_new nD1, by rw [List.length_map]; omega, fun H7 X ys b7 d7 nX hX pm => ?_⟩
  obtain ⟨lk, eys, pmS⟩ := perm_strs pm
  subst eys
  have Xst : X ≠ st := d6.ne_new nX
  have b67 := b6.trans b7
  have hp7 := b67 _ _ pst hp5
  have hu7 := b67 _ _ us hu5
  have hR7 := stL_bt hR Rst d5.lst b67
  have lnd : lk.Nodup := pmS.nodup_iff.mpr (nc.sublist sl1)
  have lcs : ∀ z ∈ lk, z ∈ cs := fun z h => sl1.subset (pmS.mem_iff.mp h)
  have lll : lk.length ≤ 4 := by rw [pmS.length_eq]; omega
  clear b6 b7 b67 d6 d5 nD1 hD1 sl1 ll1 nX pm pmS hp5 hu5 hR
  -- the keys to keep
  refine ⟨st, scr, u, 2, cs, rfl, d7, hu7, us, by omega, by decide, by decide, fun H6 D1 l1 b6 d6 nD1 hD1 sl1 => ?_⟩
  have ll1 := sl1.length_le
  refine ⟨st, scr, D1, l1.map V.str, rfl, d6, hD1, d7.ne_new nD1, by rw [List.length_map]; omega, fun H8 Y ys b8 d8 nY hY pm => ?_⟩
  obtain ⟨kp, eys, pmS⟩ := perm_strs pm
  subst eys
  have Yst : Y ≠ st := d6.ne_new nY
  have b68 := b6.trans b8
  have hp8 := b68 _ _ pst hp7
  have hX8 := b68 _ _ Xst hX
  have hR8 := stL_bt hR7 Rst d7.lst b68
  have knd : kp.Nodup := pmS.nodup_iff.mpr (nc.sublist sl1)
  have kcs : ∀ z ∈ kp, z ∈ cs := fun z h => sl1.subset (pmS.mem_iff.mp h)
  have kll : kp.length ≤ 4 := by rw [pmS.length_eq]; omega
  clear b6 b8 b68 d6 d7 nD1 hD1 sl1 ll1 nY pm pmS hp7 hu7 hR7 hX
  have few := w.len
  -- what is handed
  obtain ⟨vs, hRv, hpv⟩ := id hR8
  have vl := pairs_len hpv
  refine ⟨R, vs, rfl, .inl (SqL.of hRv), fun L0 m0 => ?_⟩
  have q0 := same_new (o := .lst vs) m0
  refine ⟨X, _, rfl, .inl (SqL.of (q0 _ _ hX8)), fun L1 m1 => ?_⟩
  have q1 := same_new (o := .lst (lk.map V.str)) m1
  have q01 := q0.trans q1
  refine ⟨Y, _, rfl, .inl (SqL.of (q01 _ _ hY)), fun L2 m2 => ?_⟩
  have q2 := same_new (o := .lst (kp.map V.str)) m2
  have q02 := q01.trans q2
  refine ⟨(by show 3 ≤ sizeLine; decide), fun h nh => ?_⟩
  have q3 := same_new (o := .lst [.ref L0, .ref L1, .ref L2]) nh
  have q03 := q02.trans q3
  have e0 := q3 _ _ (q2 _ _ (q1 _ _ (upd_same (H := H8) (a := L0) (o := .lst vs))))
  have e1 := q3 _ _ (q2 _ _ (upd_same (H := upd H8 L0 (.lst vs)) (a := L1) (o := .lst (lk.map V.str))))
  have e2 := q3 _ _ (upd_same (H := upd (upd H8 L0 (.lst vs)) L1 (.lst (lk.map V.str))) (a := L2) (o := .lst (kp.map V.str)))
  have g0 : H8 L0 = none := m0
  have g1 : H8 L1 = none := free_new m1
  have g2 : H8 L2 = none := free_new (free_new m2)
  have gh : H8 h = none := free_new (free_new (free_new nh))
  have farI : ∀ L, L = L0 ∨ L = L1 ∨ L = L2 → L ≠ h ∧ H8 L = none := fun L hL => by
    rcases hL with rfl | rfl | rfl
    · exact ⟨ne_of_none (q2 _ _ (q1 _ _ upd_same)) nh, g0⟩
    · exact ⟨ne_of_none (q2 _ _ upd_same) nh, g1⟩
    · exact ⟨ne_of_none upd_same nh, g2⟩
  have far : ∀ L, L = L0 ∨ L = L1 ∨ L = L2 → L ≠ h ∧ L ≠ st ∧ L ≠ scr ∧ p ≠ L ∧ R ≠ L ∧ X ≠ L ∧ Y ≠ L := fun L hL => by
    obtain ⟨x1, x2⟩ := farI L hL
    exact ⟨x1, d8.ne_new x2, d8.ne_scr x2, ne_of_none hp8 x2, ne_of_none hRv x2, ne_of_none hX8 x2, ne_of_none hY x2⟩
  have hnd : Hnd (upd (upd (upd (upd H8 L0 (.lst vs)) L1 (.lst (lk.map V.str))) L2 (.lst (kp.map V.str))) h (.lst [.ref L0, .ref L1, .ref L2])) h L0 L1 L2 40 := ⟨upd_same, fun L hL => by
    rcases hL with rfl | rfl | rfl
    · exact ⟨_, e0, by omega⟩
    · exact ⟨_, e1, by rw [List.length_map]; omega⟩
    · exact ⟨_, e2, by rw [List.length_map]; omega⟩⟩
  have d9 := d8.new q03
  have hp9 := q03 _ _ hp8
  have hX9 := q03 _ _ hX8
  have hY9 := q03 _ _ hY
  have hR9 := q03 _ _ hRv
  have hpp := pairs_same hpv q03
  generalize upd (upd (upd (upd H8 L0 (.lst vs)) L1 (.lst (lk.map V.str))) L2 (.lst (kp.map V.str))) h (.lst [.ref L0, .ref L1, .ref L2]) = H9 at e0 e1 e2 hnd d9 hp9 hX9 hY9 hR9 hpp ⊢
  clear q0 q1 q2 q3 q01 q02 q03 g0 g1 g2 gh farI m0 m1 m2 nh hpv hRv hR8 hX8 hY hp8 d8
  -- the plan
  refine ⟨_, .inl (SqL.of hnd.hh), _, rfl, _, .inl (SqL.of hnd.hh), _, rfl, _, .inl (SqL.of hnd.hh), _, rfl, ?_⟩
  refine ⟨rfl, rfl, ?_⟩
  refine fun x dx nx nd ne => made_plan nx nd ne T.n_Plan (lk := lk) (kp := kp) ⟨vs, SqL.of e0, hpp⟩ (.inr (SqL.of e1)) (.inr (SqL.of e2)) (by omega) (by omega) (by omega) (w.names hc lcs kcs) ?_
  refine w.plan lc.2 (fun z h => (hc z h).1) ⟨lnd, lcs⟩ ⟨knd, kcs⟩ fun H10 s10 hx => ⟨rfl, ?_⟩
  -- what is due
  have inn : ∀ z ∈ planNames ps lk kp, isName z = true ↔ z ∈ zs := fun z hz => by
    have m := w.mem lcs kcs z hz
    exact ⟨fun _ => cz z m, fun _ => (hc z m).1⟩
  refine ⟨R, X, Y, p, ps, lk, kp, zs, rfl, ⟨vs, s10 _ _ hR9, pairs_same hpp s10⟩, s10 _ _ hX9, s10 _ _ hY9, s10 _ _ hp9, by omega, by omega, by omega, inn, fun H11 d s11 hT => ?_⟩
  have hT : Told K H11 d ps (among ps lk) (among ps kp) := w.made lc.2 (fun z h => (hc z h).1) ⟨lnd, lcs⟩ ⟨knd, kcs⟩ hT
  have s9 := s10.trans s11
  have M : Mn K H11 st scr p R X Y x d zs ps lk kp := ⟨d9.new s9, s9 _ _ hp9, ⟨vs, s9 _ _ hR9, pairs_same hpp s9⟩, s9 _ _ hX9, s9 _ _ hY9, hx.same s11, hT⟩
  have hnd := hnd.same s9
  have e0 := s9 _ _ e0
  have e1 := s9 _ _ e1
  have e2 := s9 _ _ e2
  have hR9 := s9 _ _ hR9
  have hpp := pairs_same hpp s9
  clear hx hX9 hY9 hp9 d9 s10 s11 s9
  obtain ⟨t1, t2, t3, g1, _⟩ := id hT
  refine ⟨_, .inr g1, _, rfl, ?_⟩
  refine ⟨(by show 3 ≤ sizeLine; decide), fun v nv => ?_⟩
  have sv := same_new (o := .lst [.ref R, .ref X, .ref Y]) nv
  refine ⟨_, _, rfl, same_l3 (sv _ _ hnd.hh) upd_same (same_stepsL (sv _ _ e0) (sv _ _ hR9) (pairs_same hpp sv) (pairs_same hpp sv) (by omega)) (same_strsL (sv _ _ e1) (sv _ _ M.l) (by omega)) (same_strsL (sv _ _ e2) (sv _ _ M.m) (by omega)), ?_⟩
  have M := M.same sv
  have hnd := hnd.same sv
  generalize upd H11 v (.lst [.ref R, .ref X, .ref Y]) = H12 at M hnd ⊢
  clear sv nv e0 e1 e2 hR9 hpp hT g1
  refine ite2 (fun e => nomatch e) (fun _ => ?_)
  -- the lists that were handed are turned and grow
  have put : ∀ {H H' : Hp} {L : Addr} {ww : List V} {n m : Nat}, (L = L0 ∨ L = L1 ∨ L = L2) → Mn K H st scr p R X Y x d zs ps lk kp → Hnd H h L0 L1 L2 n → ww.length ≤ m → n ≤ m → H' = upd H L (.lst ww) → Mn K H' st scr p R X Y x d zs ps lk kp ∧ Hnd H' h L0 L1 L2 m := fun {H H' L ww n m} hL M G lw nm e => by
    subst e
    obtain ⟨x1, x2, x3, x4, x5, x6, x7⟩ := far L hL
    obtain ⟨v, eL, _⟩ := G.ea L hL
    exact ⟨M.bt ⟨v, eL⟩ Bt.st (M.dr.at x2 x3) x4 x5 x6 x7, G.put x1 lw nm⟩
  refine ⟨h, rfl, ⟨_, SqL.of hnd.hh⟩, ?_⟩
  refine for_list (K := K) (a := h) (xs := [.ref L0, .ref L1, .ref L2]) (fun i σ' H' => (∃ y, σ' = [some (.ref a), some (.ref st), some (.ref p), some (.ref u), some (.ref R), some (.ref X), some (.ref Y), some (.ref h), some (.ref x), some (.ref d), y, none, none, none]) ∧ Mn K H' st scr p R X Y x d zs ps lk kp ∧ Hnd H' h L0 L1 L2 40) ⟨⟨_, rfl⟩, M, hnd⟩ (fun i σ' H' _ h => SqL.of h.2.2.hh) ?_ ?_
  · rintro i v σ' H13 hi ⟨⟨y, rfl⟩, M, G⟩
    obtain ⟨L, hL, rfl⟩ : ∃ L, (L = L0 ∨ L = L1 ∨ L = L2) ∧ v = .ref L := by
      have m := List.mem_of_getElem? hi
      simp only [List.mem_cons, List.not_mem_nil, or_false] at m
      rcases m with rfl | rfl | rfl
      · exact ⟨_, .inl rfl, rfl⟩
      · exact ⟨_, .inr (.inl rfl), rfl⟩
      · exact ⟨_, .inr (.inr rfl), rfl⟩
    obtain ⟨vv, eL, lL⟩ := G.ea L hL
    refine ⟨.inl ⟨rfl, _, SqL.of eL⟩, L, vv, rfl, rfl, eL, ?_⟩
    exact ⟨⟨_, rfl⟩, put hL M G (by rw [List.length_reverse]; exact lL) (Nat.le_refl _) rfl⟩
  clear M hnd
  rintro σ' H13 ⟨⟨y, rfl⟩, M, G⟩
  obtain ⟨z4, ez4⟩ : ∃ z, zs[4]? = some z := ⟨_, List.getElem?_eq_getElem (by omega)⟩
  have az : atI (zs.map V.str) 4 = some (.str z4) := atI_nat (j := 4) (by rw [List.getElem?_map, ez4]; rfl)
  obtain ⟨v0, e0, l0⟩ := G.ea L0 (.inl rfl)
  refine ⟨_, .inl (SqL.of G.hh), _, rfl, .inl ⟨rfl, _, SqL.of e0⟩, _, .inl (SqL.of M.p), _, az, (by show 2 ≤ sizeLine; decide), fun T1 nT => ⟨L0, v0, .ref T1, rfl, rfl, (same_new nT) _ _ e0, line_lt (by omega), ?_⟩⟩
  have sT := same_new (o := .tup [.str "take", .str z4]) nT
  obtain ⟨M, G⟩ := put (ww := v0 ++ [.ref T1]) (m := 41) (.inl rfl) (M.same sT) (G.same sT) (by rw [List.length_append, List.length_singleton]; omega) (by omega) rfl
  show (fun H14 => _) (upd (upd H13 T1 (.tup [.str "take", .str z4])) L0 (.lst (v0 ++ [.ref T1])))
  generalize upd (upd H13 T1 (.tup [.str "take", .str z4])) L0 (.lst (v0 ++ [.ref T1])) = H14 at M G ⊢
  obtain ⟨v1, e1, l1⟩ := G.ea L1 (.inr (.inl rfl))
  refine ⟨_, .inl (SqL.of G.hh), _, rfl, .inl ⟨rfl, _, SqL.of e1⟩, _, .inl (SqL.of M.p), _, az, L1, v1, .str z4, rfl, rfl, e1, line_lt (by omega), ?_⟩
  obtain ⟨M, G⟩ := put (ww := v1 ++ [.str z4]) (m := 42) (.inr (.inl rfl)) M G (by rw [List.length_append, List.length_singleton]; omega) (by omega) rfl
  show (fun H15 => _) (upd H14 L1 (.lst (v1 ++ [.str z4])))
  generalize upd H14 L1 (.lst (v1 ++ [.str z4])) = H15 at M G ⊢
  obtain ⟨v2, e2, l2⟩ := G.ea L2 (.inr (.inr rfl))
  refine ⟨_, .inl (SqL.of G.hh), _, rfl, .inl ⟨rfl, _, SqL.of e2⟩, _, .inl (SqL.of M.p), _, az, L2, v2, .str z4, rfl, rfl, e2, line_lt (by omega), ?_⟩
  obtain ⟨M, G⟩ := put (ww := v2 ++ [.str z4]) (m := 43) (.inr (.inr rfl)) M G (by rw [List.length_append, List.length_singleton]; omega) (by omega) rfl
  show (fun H16 => _) (upd H15 L2 (.lst (v2 ++ [.str z4])))
  generalize upd H15 L2 (.lst (v2 ++ [.str z4])) = H16 at M ⊢
  clear G put far e0 e1 e2 l0 l1 l2 sT nT
  -- what the plan shows
  have al := among_len (zs := lk) (show ps.length ≤ 1000 by omega)
  have ak := among_len (zs := kp) (show ps.length ≤ 1000 by omega)
  refine ⟨x, d, ps, _, _, rfl, M.pl, M.due, by omega, al, ak, fun H17 s17 => ?_⟩
  have M := M.same s17
  refine ite2 (fun e => nomatch e) (fun _ => ?_)
  clear s17
  clear al ak
  -- a plan of the steps alone
  have plain : ∀ {H' : Hp} {t v w' : Addr}, StT K H' t ps → TxT K H' v [] → TxT K H' w' [] → ∀ {d' : Addr}, SqT K H' d' [.str "made", .ref t, .ref v, .ref w'] → Told K H' d' ps [] [] := fun h1 h2 h3 _ h4 => ⟨_, _, _, h4, h1, h2, h3⟩
  obtain ⟨vs, hR, hpv⟩ := id M.r
  refine ⟨R, vs, rfl, .inl (SqL.of hR), fun P1 n1 => ?_⟩
  have q1 := same_new (o := .lst vs) n1
  refine ⟨rfl, rfl, ?_⟩
  refine fun x1 dx nx nd ne => made_plan nx nd ne T.n_Plan (lk := []) (kp := []) ⟨vs, SqL.of upd_same, pairs_same hpv q1⟩ (.inl (c_Plan___init__.t1 _)) (.inl (c_Plan___init__.t2 _)) (by omega) (by show 0 < 64; decide) (by show 0 < 64; decide) (w.names hc (fun _ h => nomatch h) (fun _ h => nomatch h)) ?_
  refine w.plan lc.2 (fun z h => (hc z h).1) ⟨List.nodup_nil, fun _ h => nomatch h⟩ ⟨List.nodup_nil, fun _ h => nomatch h⟩ fun H18 s18 hx1 => ⟨rfl, ?_⟩
  rw [among_nil] at hx1
  have M := M.same (q1.trans s18)
  clear q1 n1 nx nd ne s18 hR hpv
  obtain ⟨vs, hR, hpv⟩ := id M.r
  refine ⟨R, _, rfl, .inl ⟨SqL.of hR, fun w0 nw0 => ?_⟩⟩
  have j0 := same_new (o := .tup vs) nw0
  refine ⟨Nat.zero_le _, fun w1 nw1 => ?_⟩
  have j1 := same_new (o := .tup []) nw1
  refine ⟨Nat.zero_le _, fun w2 nw2 => ?_⟩
  have j2 := same_new (o := .tup []) nw2
  refine ⟨(by show 4 ≤ sizeLine; decide), fun t nt => ?_⟩
  have j3 := same_new (o := .tup [.str "made", .ref w0, .ref w1, .ref w2]) nt
  have jj := ((j0.trans j1).trans j2).trans j3
  refine ⟨x1, t, ps, [], [], rfl, hx1.same jj, ⟨w0, w1, w2, SqT.of upd_same, ⟨vs, SqT.of (j3 _ _ (j2 _ _ (j1 _ _ upd_same))), pairs_same hpv jj⟩, SqT.of (j3 _ _ (j2 _ _ upd_same)), SqT.of (j3 _ _ upd_same)⟩, by omega, by decide, by decide, fun H19 s19 => ?_⟩
  have M := M.same (jj.trans s19)
  clear jj j0 j1 j2 j3 nw0 nw1 nw2 nt hR hpv s19 hx1
  refine ite2 (fun e => nomatch e) (fun _ => ?_)
  -- a plan with the locked keys
  obtain ⟨vs, hR, hpv⟩ := id M.r
  refine ⟨R, vs, rfl, .inl (SqL.of hR), fun P1 n1 => ?_⟩
  have q1 := same_new (o := .lst vs) n1
  refine ⟨X, _, rfl, .inl ⟨SqL.of (q1 _ _ M.l), fun P2 n2 => ?_⟩⟩
  have q2 := same_new (o := .tup (lk.map V.str)) n2
  have q12 := q1.trans q2
  refine ⟨rfl, rfl, ?_⟩
  refine fun x1 dx nx nd ne => made_plan nx nd ne T.n_Plan (lk := lk) (kp := []) ⟨vs, SqL.of (q2 _ _ upd_same), pairs_same hpv q12⟩ (.inl (SqT.of upd_same)) (.inl (c_Plan___init__.t2 _)) (by omega) (by omega) (by show 0 < 64; decide) (w.names hc lcs (fun _ h => nomatch h)) ?_
  refine w.plan lc.2 (fun z h => (hc z h).1) ⟨lnd, lcs⟩ ⟨List.nodup_nil, fun _ h => nomatch h⟩ fun H20 s20 hx1 => ⟨rfl, ?_⟩
  rw [among_nil] at hx1
  have M := M.same (q12.trans s20)
  clear q1 q2 q12 n1 n2 nx nd ne s20 hR hpv
  obtain ⟨vs, hR, hpv⟩ := id M.r
  refine ⟨R, _, rfl, .inl ⟨SqL.of hR, fun w0 nw0 => ?_⟩⟩
  have j0 := same_new (o := .tup vs) nw0
  obtain ⟨t1, t2, t3, g1, g2, g3, g4⟩ := id M.due
  refine ⟨_, .inr (SqT.same g1 j0), _, rfl, ?_⟩
  refine ⟨Nat.zero_le _, fun w2 nw2 => ?_⟩
  have j2 := same_new (o := .tup []) nw2
  refine ⟨(by show 4 ≤ sizeLine; decide), fun t nt => ?_⟩
  have j3 := same_new (o := .tup [.str "made", .ref w0, .ref t2, .ref w2]) nt
  have jj := (j0.trans j2).trans j3
  refine ⟨x1, t, ps, _, [], rfl, hx1.same jj, ⟨w0, t2, w2, SqT.of upd_same, ⟨vs, SqT.of (j3 _ _ (j2 _ _ upd_same)), pairs_same hpv jj⟩, SqT.same g3 jj, SqT.of (j3 _ _ upd_same)⟩, by omega, among_len (by omega), by decide, fun H21 s21 => ?_⟩
  have M := M.same (jj.trans s21)
  clear jj j0 j2 j3 nw0 nw2 nt hR hpv s21 hx1 g1 g2 g3 g4
  refine ite2 (fun e => nomatch e) (fun _ => ?_)
  -- a plan with the kept keys
  obtain ⟨vs, hR, hpv⟩ := id M.r
  refine ⟨R, vs, rfl, .inl (SqL.of hR), fun P1 n1 => ?_⟩
  have q1 := same_new (o := .lst vs) n1
  refine ⟨Y, _, rfl, .inl ⟨SqL.of (q1 _ _ M.m), fun P2 n2 => ?_⟩⟩
  have q2 := same_new (o := .tup (kp.map V.str)) n2
  have q12 := q1.trans q2
  refine ⟨rfl, rfl, ?_⟩
  refine fun x1 dx nx nd ne => made_plan nx nd ne T.n_Plan (lk := []) (kp := kp) ⟨vs, SqL.of (q2 _ _ upd_same), pairs_same hpv q12⟩ (.inl (c_Plan___init__.t1 _)) (.inl (SqT.of upd_same)) (by omega) (by show 0 < 64; decide) (by omega) (w.names hc (fun _ h => nomatch h) kcs) ?_
  refine w.plan lc.2 (fun z h => (hc z h).1) ⟨List.nodup_nil, fun _ h => nomatch h⟩ ⟨knd, kcs⟩ fun H20 s20 hx1 => ⟨rfl, ?_⟩
  rw [among_nil] at hx1
  have M := M.same (q12.trans s20)
  clear q1 q2 q12 n1 n2 nx nd ne s20 hR hpv
  obtain ⟨vs, hR, hpv⟩ := id M.r
  refine ⟨R, _, rfl, .inl ⟨SqL.of hR, fun w0 nw0 => ?_⟩⟩
  have j0 := same_new (o := .tup vs) nw0
  refine ⟨Nat.zero_le _, fun w1 nw1 => ?_⟩
  have j1 := same_new (o := .tup []) nw1
  obtain ⟨t1, t2, t3, g1, g2, g3, g4⟩ := id M.due
  refine ⟨_, .inr (SqT.same g1 (j0.trans j1)), _, rfl, ?_⟩
  refine ⟨(by show 4 ≤ sizeLine; decide), fun t nt => ?_⟩
  have j3 := same_new (o := .tup [.str "made", .ref w0, .ref w1, .ref t3]) nt
  have jj := (j0.trans j1).trans j3
  refine ⟨x1, t, ps, [], _, rfl, hx1.same jj, ⟨w0, w1, t3, SqT.of upd_same, ⟨vs, SqT.of (j3 _ _ (j1 _ _ upd_same)), pairs_same hpv jj⟩, SqT.of (j3 _ _ upd_same), SqT.same g4 jj⟩, by omega, by decide, among_len (by omega), fun H21 s21 => ?_⟩
  have M := M.same (jj.trans s21)
  clear jj j0 j1 j3 nw0 nw1 nt hR hpv s21 hx1 g1 g2 g3 g4 plain
  refine ite2 (fun e => nomatch e) (fun _ => ?_)
  -- rows that are bent
  have okc : ∀ z ∈ cs, OkN zs z := fun z h => ⟨⟨fun _ => cz z h, fun _ => (hc z h).1⟩, by have := (hc z h).2; omega, isName_asc (hc z h).1⟩
  refine ⟨6, rfl, by decide, by decide, ?_⟩
  refine for_range (lo := 0) (n := 6) (fun i σ' H' => (∃ y k b t, σ' = [some (.ref a), some (.ref st), some (.ref p), some (.ref u), some (.ref R), some (.ref X), some (.ref Y), some (.ref h), some (.ref x), some (.ref d), y, k, b, t]) ∧ Mn K H' st scr p R X Y x d zs ps lk kp) ⟨⟨_, _, _, _, rfl⟩, M⟩ ?_ ?_
  · clear M
    rintro i σ' H22 hi ⟨⟨y, k, b, t, rfl⟩, M⟩
    refine ⟨(by show 3 ≤ sizeLine; decide), fun t1 nt1 => ?_⟩
    have q1 := same_new (o := .tup [.ref R, .ref X, .ref Y]) nt1
    have M1 := M.same q1
    refine ⟨st, scr, t1, p, R, X, Y, ps, lk, kp, zs, rfl, M1.dr, SqT.of upd_same, M1.p, pst, by omega, by omega, fun z h => (hz z h).1, ⟨Rst, Xst, Yst, M1.r, M1.l, M1.m, fun s h => okc _ (w.sub s h), fun z h => okc z (lcs z h), fun z h => okc z (kcs z h)⟩, by omega, by omega, by omega, fun H23 t2 R2 X2 Y2 ps2 lk2 kp2 b2 d2 ht2 B2 l1 l2 l3 => ?_⟩
    have b22 := (Bt.same (st := st) q1).trans b2
    clear M1 q1 nt1 b2
    refine ⟨fun σ' H' => ∃ (t2 R2 X2 Y2 : Addr) (ps2 : List Stp) (lk2 kp2 : List Str), σ' = [some (.ref a), some (.ref st), some (.ref p), some (.ref u), some (.ref R), some (.ref X), some (.ref Y), some (.ref h), some (.ref x), some (.ref d), y, some (.int (0 + (i : Int))), some (.ref t2), t] ∧ Bt st H22 H' ∧ DrAt H' st scr ∧ SqT K H' t2 [.ref R2, .ref X2, .ref Y2] ∧ Bent K H' st zs R2 X2 Y2 ps2 lk2 kp2 ∧ ps2.length ≤ 50 ∧ lk2.length ≤ 50 ∧ kp2.length ≤ 50, ?_, ?_⟩
    · refine ⟨st, scr, 3, rfl, d2, by decide, many_small (by decide) (by decide), fun r l r0 r1 d3 => ?_⟩
      have b3 := b22.trans (Bt.st (st := st) (o := .lst l))
      have b23 : Bt st H23 (upd H23 st (.lst l)) := Bt.st
      have B3 := B2.bt d2.lst b23
      have ht3 := SqT.bt ht2 (NT.lst d2.lst) b23
      generalize upd H23 st (.lst l) = H24 at d3 b3 B3 ht3 ⊢
      refine ite2 (fun c => ?_) (fun c => ?_)
      · refine ⟨st, scr, t2, p, R2, X2, Y2, ps2, lk2, kp2, zs, rfl, d3, ht3, b3 _ _ pst M.p, pst, by omega, by omega, fun z h => (hz z h).1, B3, by omega, by omega, by omega, fun H25 t4 R4 X4 Y4 ps4 lk4 kp4 b4 d4 ht4 B4 m1 m2 m3 => ?_⟩
        exact ⟨t4, R4, X4, Y4, ps4, lk4, kp4, rfl, b3.trans b4, d4, ht4, B4, by omega, by omega, by omega⟩
      · exact ⟨t2, R2, X2, Y2, ps2, lk2, kp2, rfl, b3, d3, ht3, B3, by omega, by omega, by omega⟩
    clear b22 ht2 B2 l1 l2 l3 d2
    rintro σ' H26 ⟨t2, R2, X2, Y2, ps2, lk2, kp2, rfl, b6, d6, ht, B, l1, l2, l3⟩
    obtain ⟨us, hR2, hp2⟩ := id B.r
    refine ⟨_, .inr ht, _, rfl, R2, us, rfl, .inl (SqL.of hR2), fun P0 n0 => ?_⟩
    have q0 := same_new (o := .lst us) n0
    refine ⟨_, .inr (SqT.same ht q0), _, rfl, X2, _, rfl, .inl (SqL.of (q0 _ _ B.l)), fun P1 n1 => ?_⟩
    have q1 := same_new (o := .lst (lk2.map V.str)) n1
    have q01 := q0.trans q1
    refine ⟨_, .inr (SqT.same ht q01), _, rfl, Y2, _, rfl, .inl (SqL.of (q01 _ _ B.m)), fun P2 n2 => ?_⟩
    have q2 := same_new (o := .lst (kp2.map V.str)) n2
    have q02 := q01.trans q2
    refine ⟨P0, P1, P2, ps2, lk2, kp2, rfl, ⟨us, SqL.of (q2 _ _ (q1 _ _ upd_same)), pairs_same hp2 q02⟩, .inr (SqL.of (q2 _ _ upd_same)), .inr (SqL.of upd_same), by omega, by omega, by omega, fun z h => (B.all z h).2, fun H27 tt s27 hT => ?_⟩
    have s7 := q02.trans s27
    refine ⟨_, .inr (SqT.same ht s7), _, rfl, _, .inr (SqT.same ht s7), _, rfl, _, .inr (SqT.same ht s7), _, rfl, ?_⟩
    refine ⟨R2, X2, Y2, p, ps2, lk2, kp2, zs, rfl, ⟨us, s7 _ _ hR2, pairs_same hp2 s7⟩, s7 _ _ B.l, s7 _ _ B.m, s7 _ _ (b6 _ _ pst M.p), by omega, by omega, by omega, fun z h => (B.all z h).1, fun H28 t3 s28 hT2 => ?_⟩
    refine ⟨_, _, rfl, try_same (by omega) (hT.same s28) hT2, ?_⟩
    refine ite2 (fun e => nomatch e) (fun _ => ?_)
    have s8 := s7.trans s28
    exact ⟨⟨_, _, _, _, rfl⟩, M.bt M.dr.lst (b6.trans (Bt.same s8)) (d6.new s8) pst Rst Xst Yst⟩
  rintro σ' H22 ⟨⟨y, k, b, t, rfl⟩, M⟩
  exact ⟨x, d, ps, _, _, rfl, M.pl, M.due, by omega, among_len (by omega), among_len (by omega), fun H23 s23 => q _⟩
end
theorem all_mk {l : PySem.W.OpenLaw} {w : World} {K : PySem.W.Frag} {h : Heap} {mg : Str → Option Value} {fa : Addr} {t_LETTERS t_LONGEST_NAME : Tok} {a_DEEDS a_RESERVED a_BadName a_BadPlan a_ElseputError a_Plan a_UnknownName : Addr} {f_is_name f_check_name f_looked_at f_step_fits f_steps_fit f_keys_fit f__law_state f__law_draw f__law_pick f__law_mixed f__law_names f__law_is_int f__law_same f__law_wild_steps f__law_some f__law_bad_name f_Plan___init__ f__law_try f__law_keys_good f__law_steps_good f__law_due f__law_spoiled f_Plan___iter__ f_Plan___len__ f__law_shows f_law : Addr} {od_is_name an_is_name : Option Addr} {sl_is_name : Array (Option Value)} {oc_is_name kV_is_name dc_is_name pm_is_name cd_is_name ct_is_name : Value} {od_check_name an_check_name : Option Addr} {sl_check_name : Array (Option Value)} {oc_check_name kV_check_name dc_check_name pm_check_name cd_check_name ct_check_name : Value} {od_looked_at an_looked_at : Option Addr} {sl_looked_at : Array (Option Value)} {oc_looked_at kV_looked_at dc_looked_at pm_looked_at cd_looked_at ct_looked_at : Value} {od_step_fits an_step_fits : Option Addr} {sl_step_fits : Array (Option Value)} {oc_step_fits kV_step_fits dc_step_fits pm_step_fits cd_step_fits ct_step_fits : Value} {od_steps_fit an_steps_fit : Option Addr} {sl_steps_fit : Array (Option Value)} {oc_steps_fit kV_steps_fit dc_steps_fit pm_steps_fit cd_steps_fit ct_steps_fit : Value} {od_keys_fit an_keys_fit : Option Addr} {sl_keys_fit : Array (Option Value)} {oc_keys_fit kV_keys_fit dc_keys_fit pm_keys_fit cd_keys_fit ct_keys_fit : Value} {od__law_state an__law_state : Option Addr} {sl__law_state : Array (Option Value)} {oc__law_state kV__law_state dc__law_state pm__law_state cd__law_state ct__law_state : Value} {od__law_draw an__law_draw : Option Addr} {sl__law_draw : Array (Option Value)} {oc__law_draw kV__law_draw dc__law_draw pm__law_draw cd__law_draw ct__law_draw : Value} {od__law_pick an__law_pick : Option Addr} {sl__law_pick : Array (Option Value)} {oc__law_pick kV__law_pick dc__law_pick pm__law_pick cd__law_pick ct__law_pick : Value} {od__law_mixed an__law_mixed : Option Addr} {sl__law_mixed : Array (Option Value)} {oc__law_mixed kV__law_mixed dc__law_mixed pm__law_mixed cd__law_mixed ct__law_mixed : Value} {od__law_names an__law_names : Option Addr} {sl__law_names : Array (Option Value)} {oc__law_names kV__law_names dc__law_names pm__law_names cd__law_names ct__law_names : Value} {od__law_is_int an__law_is_int : Option Addr} {sl__law_is_int : Array (Option Value)} {oc__law_is_int kV__law_is_int dc__law_is_int pm__law_is_int cd__law_is_int ct__law_is_int : Value} {od__law_same an__law_same : Option Addr} {sl__law_same : Array (Option Value)} {oc__law_same kV__law_same dc__law_same pm__law_same cd__law_same ct__law_same : Value} {od__law_wild_steps an__law_wild_steps : Option Addr} {sl__law_wild_steps : Array (Option Value)} {oc__law_wild_steps kV__law_wild_steps dc__law_wild_steps pm__law_wild_steps cd__law_wild_steps ct__law_wild_steps : Value} {od__law_some an__law_some : Option Addr} {sl__law_some : Array (Option Value)} {oc__law_some kV__law_some dc__law_some pm__law_some cd__law_some ct__law_some : Value} {od__law_bad_name an__law_bad_name : Option Addr} {sl__law_bad_name : Array (Option Value)} {oc__law_bad_name kV__law_bad_name dc__law_bad_name pm__law_bad_name cd__law_bad_name ct__law_bad_name : Value} {od_Plan___init__ an_Plan___init__ : Option Addr} {sl_Plan___init__ : Array (Option Value)} {oc_Plan___init__ dc_Plan___init__ pm_Plan___init__ cd_Plan___init__ ct_Plan___init__ : Value} {kD_Plan___init__ e1_Plan___init__ e2_Plan___init__ : Addr} {eo1_Plan___init__ : Option Addr} {ei1_Plan___init__ : Array Value} {en1_Plan___init__ : Nat} {el1_Plan___init__ : Array (Option Value)} {eo2_Plan___init__ : Option Addr} {ei2_Plan___init__ : Array Value} {en2_Plan___init__ : Nat} {el2_Plan___init__ : Array (Option Value)} {od__law_try an__law_try : Option Addr} {sl__law_try : Array (Option Value)} {oc__law_try kV__law_try dc__law_try pm__law_try cd__law_try ct__law_try : Value} {od__law_keys_good an__law_keys_good : Option Addr} {sl__law_keys_good : Array (Option Value)} {oc__law_keys_good kV__law_keys_good dc__law_keys_good pm__law_keys_good cd__law_keys_good ct__law_keys_good : Value} {od__law_steps_good an__law_steps_good : Option Addr} {sl__law_steps_good : Array (Option Value)} {oc__law_steps_good kV__law_steps_good dc__law_steps_good pm__law_steps_good cd__law_steps_good ct__law_steps_good : Value} {od__law_due an__law_due : Option Addr} {sl__law_due : Array (Option Value)} {oc__law_due kV__law_due dc__law_due pm__law_due cd__law_due ct__law_due : Value} {od__law_spoiled an__law_spoiled : Option Addr} {sl__law_spoiled : Array (Option Value)} {oc__law_spoiled kV__law_spoiled dc__law_spoiled pm__law_spoiled cd__law_spoiled ct__law_spoiled : Value} {od_Plan___iter__ an_Plan___iter__ : Option Addr} {sl_Plan___iter__ : Array (Option Value)} {oc_Plan___iter__ kV_Plan___iter__ dc_Plan___iter__ pm_Plan___iter__ cd_Plan___iter__ ct_Plan___iter__ : Value} {od_Plan___len__ an_Plan___len__ : Option Addr} {sl_Plan___len__ : Array (Option Value)} {oc_Plan___len__ kV_Plan___len__ dc_Plan___len__ pm_Plan___len__ cd_Plan___len__ ct_Plan___len__ : Value} {od__law_shows an__law_shows : Option Addr} {sl__law_shows : Array (Option Value)} {oc__law_shows kV__law_shows dc__law_shows pm__law_shows cd__law_shows ct__law_shows : Value} {od_law an_law : Option Addr} {sl_law : Array (Option Value)} {oc_law kV_law dc_law pm_law cd_law ct_law : Value} {od_DEEDS : Option Addr} {its_DEEDS : Array Value} {n_DEEDS : Nat} {sl_DEEDS : Array (Option Value)} {od_RESERVED : Option Addr} {its_RESERVED : Array Value} {n_RESERVED : Nat} {sl_RESERVED : Array (Option Value)} {f_BadName N_BadName cc_BadName cda_BadName : Addr} {nm_BadName q_BadName : Str} {bs_BadName bm_BadName : List Value} {sn_BadName : List Str} {sub_BadName : List Value} {ab_BadName : Bool} {col_BadName : Option Bool} {dd_BadName : Option Addr} {e0_BadName e1_BadName e2_BadName e3_BadName e5_BadName : Option Value} {oc_BadName doc_BadName pm_BadName ct_BadName ccl_BadName cl_BadName : Value} {od_BadName cdd_BadName cld_BadName : Option Addr} {osl_BadName ccs_BadName csl_BadName : Array (Option Value)} {vs_BadName : Array Value} {file_BadName : Str} {tf_BadName : Tok} {cdD_BadName : ClassData} {f_UnknownName N_UnknownName cc_UnknownName cda_UnknownName : Addr} {nm_UnknownName q_UnknownName : Str} {bs_UnknownName bm_UnknownName : List Value} {sn_UnknownName : List Str} {sub_UnknownName : List Value} {ab_UnknownName : Bool} {col_UnknownName : Option Bool} {dd_UnknownName : Option Addr} {e0_UnknownName e1_UnknownName e2_UnknownName e3_UnknownName e5_UnknownName : Option Value} {oc_UnknownName doc_UnknownName pm_UnknownName ct_UnknownName ccl_UnknownName cl_UnknownName : Value} {od_UnknownName cdd_UnknownName cld_UnknownName : Option Addr} {osl_UnknownName ccs_UnknownName csl_UnknownName : Array (Option Value)} {vs_UnknownName : Array Value} {file_UnknownName : Str} {tf_UnknownName : Tok} {cdD_UnknownName : ClassData} {f_BadPlan N_BadPlan cc_BadPlan cda_BadPlan : Addr} {nm_BadPlan q_BadPlan : Str} {bs_BadPlan bm_BadPlan : List Value} {sn_BadPlan : List Str} {sub_BadPlan : List Value} {ab_BadPlan : Bool} {col_BadPlan : Option Bool} {dd_BadPlan : Option Addr} {e0_BadPlan e1_BadPlan e2_BadPlan e3_BadPlan e5_BadPlan : Option Value} {oc_BadPlan doc_BadPlan pm_BadPlan ct_BadPlan ccl_BadPlan cl_BadPlan : Value} {od_BadPlan cdd_BadPlan cld_BadPlan : Option Addr} {osl_BadPlan ccs_BadPlan csl_BadPlan : Array (Option Value)} {vs_BadPlan : Array Value} {file_BadPlan : Str} {tf_BadPlan : Tok} {cdD_BadPlan : ClassData} (X : K.In h) (G : h.Ns mainGlobals mg) (hfa : mg "law" = some (.ref fa))
    (g_Plan : PySem.W.nsIn K mainGlobals "Plan" = some (some (.ref a_Plan)))
    (pg_Plan : PySem.W.plainGet K a_Plan Str.empty = true)
    (hx_Plan : PySem.W.hasDictIn K a_Plan = true)
    (po_Plan : PySem.W.plainOver K a_Plan = true)
    (st_Plan : PySem.W.findIn K (.ref a_Plan) "__setattr__" = some (some (.builtin "object.__setattr__")))
    (rr_Plan : PySem.W.readsIn K a_Plan (.type "type") = true)
    (rg_Plan : PySem.W.specialIn K (.ref a_Plan) "__getattribute__" = some (some (.builtin "type.__getattribute__")))
    (mi_Plan : PySem.W.makesIn K a_Plan = true)
    (ko_Plan : PySem.W.keepIn K (.ref a_Plan) = true)
    (sf_Plan : PySem.W.selfFirst K a_Plan = true)
    (na_Plan_kept : PySem.W.findIn K (.ref a_Plan) "kept" = some none)
    (na_Plan_locked : PySem.W.findIn K (.ref a_Plan) "locked" = some none)
    (na_Plan_steps : PySem.W.findIn K (.ref a_Plan) "steps" = some none)
    (a_is_name : PySem.W.nsIn K mainGlobals "is_name" = some (some (.ref f_is_name)))
    (l_is_name : K.lookup f_is_name = some ⟨oc_is_name, od_is_name, .func (PySem.W.fnOf "is_name" "is_name" (defArgs s_is_name) (defBody s_is_name) (defScope s_is_name) .none kV_is_name dc_is_name pm_is_name an_is_name cd_is_name ct_is_name), sl_is_name⟩)
    (c_is_name : PySem.W.codeIn K cd_is_name "is_name" = true)
    (k_is_name : PySem.W.keepIn K (.ref f_is_name) = true)
    (a_check_name : PySem.W.nsIn K mainGlobals "check_name" = some (some (.ref f_check_name)))
    (l_check_name : K.lookup f_check_name = some ⟨oc_check_name, od_check_name, .func (PySem.W.fnOf "check_name" "check_name" (defArgs s_check_name) (defBody s_check_name) (defScope s_check_name) .none kV_check_name dc_check_name pm_check_name an_check_name cd_check_name ct_check_name), sl_check_name⟩)
    (c_check_name : PySem.W.codeIn K cd_check_name "check_name" = true)
    (k_check_name : PySem.W.keepIn K (.ref f_check_name) = true)
    (a_looked_at : PySem.W.nsIn K mainGlobals "looked_at" = some (some (.ref f_looked_at)))
    (l_looked_at : K.lookup f_looked_at = some ⟨oc_looked_at, od_looked_at, .func (PySem.W.fnOf "looked_at" "looked_at" (defArgs s_looked_at) (defBody s_looked_at) (defScope s_looked_at) .none kV_looked_at dc_looked_at pm_looked_at an_looked_at cd_looked_at ct_looked_at), sl_looked_at⟩)
    (c_looked_at : PySem.W.codeIn K cd_looked_at "looked_at" = true)
    (k_looked_at : PySem.W.keepIn K (.ref f_looked_at) = true)
    (a_step_fits : PySem.W.nsIn K mainGlobals "step_fits" = some (some (.ref f_step_fits)))
    (l_step_fits : K.lookup f_step_fits = some ⟨oc_step_fits, od_step_fits, .func (PySem.W.fnOf "step_fits" "step_fits" (defArgs s_step_fits) (defBody s_step_fits) (defScope s_step_fits) .none kV_step_fits dc_step_fits pm_step_fits an_step_fits cd_step_fits ct_step_fits), sl_step_fits⟩)
    (c_step_fits : PySem.W.codeIn K cd_step_fits "step_fits" = true)
    (k_step_fits : PySem.W.keepIn K (.ref f_step_fits) = true)
    (a_steps_fit : PySem.W.nsIn K mainGlobals "steps_fit" = some (some (.ref f_steps_fit)))
    (l_steps_fit : K.lookup f_steps_fit = some ⟨oc_steps_fit, od_steps_fit, .func (PySem.W.fnOf "steps_fit" "steps_fit" (defArgs s_steps_fit) (defBody s_steps_fit) (defScope s_steps_fit) .none kV_steps_fit dc_steps_fit pm_steps_fit an_steps_fit cd_steps_fit ct_steps_fit), sl_steps_fit⟩)
    (c_steps_fit : PySem.W.codeIn K cd_steps_fit "steps_fit" = true)
    (k_steps_fit : PySem.W.keepIn K (.ref f_steps_fit) = true)
    (a_keys_fit : PySem.W.nsIn K mainGlobals "keys_fit" = some (some (.ref f_keys_fit)))
    (l_keys_fit : K.lookup f_keys_fit = some ⟨oc_keys_fit, od_keys_fit, .func (PySem.W.fnOf "keys_fit" "keys_fit" (defArgs s_keys_fit) (defBody s_keys_fit) (defScope s_keys_fit) .none kV_keys_fit dc_keys_fit pm_keys_fit an_keys_fit cd_keys_fit ct_keys_fit), sl_keys_fit⟩)
    (c_keys_fit : PySem.W.codeIn K cd_keys_fit "keys_fit" = true)
    (k_keys_fit : PySem.W.keepIn K (.ref f_keys_fit) = true)
    (a__law_state : PySem.W.nsIn K mainGlobals "_law_state" = some (some (.ref f__law_state)))
    (l__law_state : K.lookup f__law_state = some ⟨oc__law_state, od__law_state, .func (PySem.W.fnOf "_law_state" "_law_state" (defArgs s__law_state) (defBody s__law_state) (defScope s__law_state) .none kV__law_state dc__law_state pm__law_state an__law_state cd__law_state ct__law_state), sl__law_state⟩)
    (c__law_state : PySem.W.codeIn K cd__law_state "_law_state" = true)
    (k__law_state : PySem.W.keepIn K (.ref f__law_state) = true)
    (a__law_draw : PySem.W.nsIn K mainGlobals "_law_draw" = some (some (.ref f__law_draw)))
    (l__law_draw : K.lookup f__law_draw = some ⟨oc__law_draw, od__law_draw, .func (PySem.W.fnOf "_law_draw" "_law_draw" (defArgs s__law_draw) (defBody s__law_draw) (defScope s__law_draw) .none kV__law_draw dc__law_draw pm__law_draw an__law_draw cd__law_draw ct__law_draw), sl__law_draw⟩)
    (c__law_draw : PySem.W.codeIn K cd__law_draw "_law_draw" = true)
    (k__law_draw : PySem.W.keepIn K (.ref f__law_draw) = true)
    (a__law_pick : PySem.W.nsIn K mainGlobals "_law_pick" = some (some (.ref f__law_pick)))
    (l__law_pick : K.lookup f__law_pick = some ⟨oc__law_pick, od__law_pick, .func (PySem.W.fnOf "_law_pick" "_law_pick" (defArgs s__law_pick) (defBody s__law_pick) (defScope s__law_pick) .none kV__law_pick dc__law_pick pm__law_pick an__law_pick cd__law_pick ct__law_pick), sl__law_pick⟩)
    (c__law_pick : PySem.W.codeIn K cd__law_pick "_law_pick" = true)
    (k__law_pick : PySem.W.keepIn K (.ref f__law_pick) = true)
    (a__law_mixed : PySem.W.nsIn K mainGlobals "_law_mixed" = some (some (.ref f__law_mixed)))
    (l__law_mixed : K.lookup f__law_mixed = some ⟨oc__law_mixed, od__law_mixed, .func (PySem.W.fnOf "_law_mixed" "_law_mixed" (defArgs s__law_mixed) (defBody s__law_mixed) (defScope s__law_mixed) .none kV__law_mixed dc__law_mixed pm__law_mixed an__law_mixed cd__law_mixed ct__law_mixed), sl__law_mixed⟩)
    (c__law_mixed : PySem.W.codeIn K cd__law_mixed "_law_mixed" = true)
    (k__law_mixed : PySem.W.keepIn K (.ref f__law_mixed) = true)
    (a__law_names : PySem.W.nsIn K mainGlobals "_law_names" = some (some (.ref f__law_names)))
    (l__law_names : K.lookup f__law_names = some ⟨oc__law_names, od__law_names, .func (PySem.W.fnOf "_law_names" "_law_names" (defArgs s__law_names) (defBody s__law_names) (defScope s__law_names) .none kV__law_names dc__law_names pm__law_names an__law_names cd__law_names ct__law_names), sl__law_names⟩)
    (c__law_names : PySem.W.codeIn K cd__law_names "_law_names" = true)
    (k__law_names : PySem.W.keepIn K (.ref f__law_names) = true)
    (a__law_is_int : PySem.W.nsIn K mainGlobals "_law_is_int" = some (some (.ref f__law_is_int)))
    (l__law_is_int : K.lookup f__law_is_int = some ⟨oc__law_is_int, od__law_is_int, .func (PySem.W.fnOf "_law_is_int" "_law_is_int" (defArgs s__law_is_int) (defBody s__law_is_int) (defScope s__law_is_int) .none kV__law_is_int dc__law_is_int pm__law_is_int an__law_is_int cd__law_is_int ct__law_is_int), sl__law_is_int⟩)
    (c__law_is_int : PySem.W.codeIn K cd__law_is_int "_law_is_int" = true)
    (k__law_is_int : PySem.W.keepIn K (.ref f__law_is_int) = true)
    (a__law_same : PySem.W.nsIn K mainGlobals "_law_same" = some (some (.ref f__law_same)))
    (l__law_same : K.lookup f__law_same = some ⟨oc__law_same, od__law_same, .func (PySem.W.fnOf "_law_same" "_law_same" (defArgs s__law_same) (defBody s__law_same) (defScope s__law_same) .none kV__law_same dc__law_same pm__law_same an__law_same cd__law_same ct__law_same), sl__law_same⟩)
    (c__law_same : PySem.W.codeIn K cd__law_same "_law_same" = true)
    (k__law_same : PySem.W.keepIn K (.ref f__law_same) = true)
    (a__law_wild_steps : PySem.W.nsIn K mainGlobals "_law_wild_steps" = some (some (.ref f__law_wild_steps)))
    (l__law_wild_steps : K.lookup f__law_wild_steps = some ⟨oc__law_wild_steps, od__law_wild_steps, .func (PySem.W.fnOf "_law_wild_steps" "_law_wild_steps" (defArgs s__law_wild_steps) (defBody s__law_wild_steps) (defScope s__law_wild_steps) .none kV__law_wild_steps dc__law_wild_steps pm__law_wild_steps an__law_wild_steps cd__law_wild_steps ct__law_wild_steps), sl__law_wild_steps⟩)
    (c__law_wild_steps : PySem.W.codeIn K cd__law_wild_steps "_law_wild_steps" = true)
    (k__law_wild_steps : PySem.W.keepIn K (.ref f__law_wild_steps) = true)
    (a__law_some : PySem.W.nsIn K mainGlobals "_law_some" = some (some (.ref f__law_some)))
    (l__law_some : K.lookup f__law_some = some ⟨oc__law_some, od__law_some, .func (PySem.W.fnOf "_law_some" "_law_some" (defArgs s__law_some) (defBody s__law_some) (defScope s__law_some) .none kV__law_some dc__law_some pm__law_some an__law_some cd__law_some ct__law_some), sl__law_some⟩)
    (c__law_some : PySem.W.codeIn K cd__law_some "_law_some" = true)
    (k__law_some : PySem.W.keepIn K (.ref f__law_some) = true)
    (a__law_bad_name : PySem.W.nsIn K mainGlobals "_law_bad_name" = some (some (.ref f__law_bad_name)))
    (l__law_bad_name : K.lookup f__law_bad_name = some ⟨oc__law_bad_name, od__law_bad_name, .func (PySem.W.fnOf "_law_bad_name" "_law_bad_name" (defArgs s__law_bad_name) (defBody s__law_bad_name) (defScope s__law_bad_name) .none kV__law_bad_name dc__law_bad_name pm__law_bad_name an__law_bad_name cd__law_bad_name ct__law_bad_name), sl__law_bad_name⟩)
    (c__law_bad_name : PySem.W.codeIn K cd__law_bad_name "_law_bad_name" = true)
    (k__law_bad_name : PySem.W.keepIn K (.ref f__law_bad_name) = true)
    (fa_Plan___init__ : PySem.W.findIn K (.ref a_Plan) "__init__" = some (some (.ref f_Plan___init__)))
    (fn_Plan___init__ : PySem.W.isFn K (.ref f_Plan___init__) = true)
    (l_Plan___init__ : K.lookup f_Plan___init__ = some ⟨oc_Plan___init__, od_Plan___init__, .func (PySem.W.fnOf "__init__" "Plan.__init__" (defArgs s_Plan___init__) (defBody s_Plan___init__) (defScope s_Plan___init__) .none (.ref kD_Plan___init__) dc_Plan___init__ pm_Plan___init__ an_Plan___init__ cd_Plan___init__ ct_Plan___init__), sl_Plan___init__⟩)
    (ek1_Plan___init__ : PySem.W.nsIn K kD_Plan___init__ "locked" = some (some (.ref e1_Plan___init__)))
    (el_1_Plan___init__ : K.lookup e1_Plan___init__ = some ⟨.type "tuple", eo1_Plan___init__, .seq ei1_Plan___init__ en1_Plan___init__, el1_Plan___init__⟩)
    (v_e1_Plan___init__ : Vals [] ei1_Plan___init__.toList)
    (ek2_Plan___init__ : PySem.W.nsIn K kD_Plan___init__ "kept" = some (some (.ref e2_Plan___init__)))
    (el_2_Plan___init__ : K.lookup e2_Plan___init__ = some ⟨.type "tuple", eo2_Plan___init__, .seq ei2_Plan___init__ en2_Plan___init__, el2_Plan___init__⟩)
    (v_e2_Plan___init__ : Vals [] ei2_Plan___init__.toList)
    (c_Plan___init__ : PySem.W.codeIn K cd_Plan___init__ "Plan.__init__" = true)
    (k_Plan___init__ : PySem.W.keepIn K (.ref f_Plan___init__) = true)
    (a__law_try : PySem.W.nsIn K mainGlobals "_law_try" = some (some (.ref f__law_try)))
    (l__law_try : K.lookup f__law_try = some ⟨oc__law_try, od__law_try, .func (PySem.W.fnOf "_law_try" "_law_try" (defArgs s__law_try) (defBody s__law_try) (defScope s__law_try) .none kV__law_try dc__law_try pm__law_try an__law_try cd__law_try ct__law_try), sl__law_try⟩)
    (c__law_try : PySem.W.codeIn K cd__law_try "_law_try" = true)
    (k__law_try : PySem.W.keepIn K (.ref f__law_try) = true)
    (a__law_keys_good : PySem.W.nsIn K mainGlobals "_law_keys_good" = some (some (.ref f__law_keys_good)))
    (l__law_keys_good : K.lookup f__law_keys_good = some ⟨oc__law_keys_good, od__law_keys_good, .func (PySem.W.fnOf "_law_keys_good" "_law_keys_good" (defArgs s__law_keys_good) (defBody s__law_keys_good) (defScope s__law_keys_good) .none kV__law_keys_good dc__law_keys_good pm__law_keys_good an__law_keys_good cd__law_keys_good ct__law_keys_good), sl__law_keys_good⟩)
    (c__law_keys_good : PySem.W.codeIn K cd__law_keys_good "_law_keys_good" = true)
    (k__law_keys_good : PySem.W.keepIn K (.ref f__law_keys_good) = true)
    (a__law_steps_good : PySem.W.nsIn K mainGlobals "_law_steps_good" = some (some (.ref f__law_steps_good)))
    (l__law_steps_good : K.lookup f__law_steps_good = some ⟨oc__law_steps_good, od__law_steps_good, .func (PySem.W.fnOf "_law_steps_good" "_law_steps_good" (defArgs s__law_steps_good) (defBody s__law_steps_good) (defScope s__law_steps_good) .none kV__law_steps_good dc__law_steps_good pm__law_steps_good an__law_steps_good cd__law_steps_good ct__law_steps_good), sl__law_steps_good⟩)
    (c__law_steps_good : PySem.W.codeIn K cd__law_steps_good "_law_steps_good" = true)
    (k__law_steps_good : PySem.W.keepIn K (.ref f__law_steps_good) = true)
    (a__law_due : PySem.W.nsIn K mainGlobals "_law_due" = some (some (.ref f__law_due)))
    (l__law_due : K.lookup f__law_due = some ⟨oc__law_due, od__law_due, .func (PySem.W.fnOf "_law_due" "_law_due" (defArgs s__law_due) (defBody s__law_due) (defScope s__law_due) .none kV__law_due dc__law_due pm__law_due an__law_due cd__law_due ct__law_due), sl__law_due⟩)
    (c__law_due : PySem.W.codeIn K cd__law_due "_law_due" = true)
    (k__law_due : PySem.W.keepIn K (.ref f__law_due) = true)
    (a__law_spoiled : PySem.W.nsIn K mainGlobals "_law_spoiled" = some (some (.ref f__law_spoiled)))
    (l__law_spoiled : K.lookup f__law_spoiled = some ⟨oc__law_spoiled, od__law_spoiled, .func (PySem.W.fnOf "_law_spoiled" "_law_spoiled" (defArgs s__law_spoiled) (defBody s__law_spoiled) (defScope s__law_spoiled) .none kV__law_spoiled dc__law_spoiled pm__law_spoiled an__law_spoiled cd__law_spoiled ct__law_spoiled), sl__law_spoiled⟩)
    (c__law_spoiled : PySem.W.codeIn K cd__law_spoiled "_law_spoiled" = true)
    (k__law_spoiled : PySem.W.keepIn K (.ref f__law_spoiled) = true)
    (fa_Plan___iter__ : PySem.W.findIn K (.ref a_Plan) "__iter__" = some (some (.ref f_Plan___iter__)))
    (fn_Plan___iter__ : PySem.W.isFn K (.ref f_Plan___iter__) = true)
    (l_Plan___iter__ : K.lookup f_Plan___iter__ = some ⟨oc_Plan___iter__, od_Plan___iter__, .func (PySem.W.fnOf "__iter__" "Plan.__iter__" (defArgs s_Plan___iter__) (defBody s_Plan___iter__) (defScope s_Plan___iter__) .none kV_Plan___iter__ dc_Plan___iter__ pm_Plan___iter__ an_Plan___iter__ cd_Plan___iter__ ct_Plan___iter__), sl_Plan___iter__⟩)
    (c_Plan___iter__ : PySem.W.codeIn K cd_Plan___iter__ "Plan.__iter__" = true)
    (k_Plan___iter__ : PySem.W.keepIn K (.ref f_Plan___iter__) = true)
    (fa_Plan___len__ : PySem.W.findIn K (.ref a_Plan) "__len__" = some (some (.ref f_Plan___len__)))
    (fn_Plan___len__ : PySem.W.isFn K (.ref f_Plan___len__) = true)
    (l_Plan___len__ : K.lookup f_Plan___len__ = some ⟨oc_Plan___len__, od_Plan___len__, .func (PySem.W.fnOf "__len__" "Plan.__len__" (defArgs s_Plan___len__) (defBody s_Plan___len__) (defScope s_Plan___len__) .none kV_Plan___len__ dc_Plan___len__ pm_Plan___len__ an_Plan___len__ cd_Plan___len__ ct_Plan___len__), sl_Plan___len__⟩)
    (c_Plan___len__ : PySem.W.codeIn K cd_Plan___len__ "Plan.__len__" = true)
    (k_Plan___len__ : PySem.W.keepIn K (.ref f_Plan___len__) = true)
    (a__law_shows : PySem.W.nsIn K mainGlobals "_law_shows" = some (some (.ref f__law_shows)))
    (l__law_shows : K.lookup f__law_shows = some ⟨oc__law_shows, od__law_shows, .func (PySem.W.fnOf "_law_shows" "_law_shows" (defArgs s__law_shows) (defBody s__law_shows) (defScope s__law_shows) .none kV__law_shows dc__law_shows pm__law_shows an__law_shows cd__law_shows ct__law_shows), sl__law_shows⟩)
    (c__law_shows : PySem.W.codeIn K cd__law_shows "_law_shows" = true)
    (k__law_shows : PySem.W.keepIn K (.ref f__law_shows) = true)
    (a_law : PySem.W.nsIn K mainGlobals "law" = some (some (.ref f_law)))
    (l_law : K.lookup f_law = some ⟨oc_law, od_law, .func (PySem.W.fnOf "law" "law" (defArgs s_law) (defBody s_law) (defScope s_law) .none kV_law dc_law pm_law an_law cd_law ct_law), sl_law⟩)
    (c_law : PySem.W.codeIn K cd_law "law" = true)
    (k_law : PySem.W.keepIn K (.ref f_law) = true)
    (z_ValueError : PySem.W.nsIn K mainGlobals "ValueError" = some none)
    (z_all : PySem.W.nsIn K mainGlobals "all" = some none)
    (z_bool : PySem.W.nsIn K mainGlobals "bool" = some none)
    (z_dict : PySem.W.nsIn K mainGlobals "dict" = some none)
    (z_int : PySem.W.nsIn K mainGlobals "int" = some none)
    (z_isinstance : PySem.W.nsIn K mainGlobals "isinstance" = some none)
    (z_iter : PySem.W.nsIn K mainGlobals "iter" = some none)
    (z_len : PySem.W.nsIn K mainGlobals "len" = some none)
    (z_list : PySem.W.nsIn K mainGlobals "list" = some none)
    (z_range : PySem.W.nsIn K mainGlobals "range" = some none)
    (z_set : PySem.W.nsIn K mainGlobals "set" = some none)
    (z_str : PySem.W.nsIn K mainGlobals "str" = some none)
    (z_super : PySem.W.nsIn K mainGlobals "super" = some none)
    (z_tuple : PySem.W.nsIn K mainGlobals "tuple" = some none)
    (g_LETTERS : PySem.W.nsIn K mainGlobals "LETTERS" = some (some (.str "abcdefghijklmnopqrstuvwxyz" t_LETTERS)))
    (g_LONGEST_NAME : PySem.W.nsIn K mainGlobals "LONGEST_NAME" = some (some (.int 12 t_LONGEST_NAME)))
    (g_DEEDS : PySem.W.nsIn K mainGlobals "DEEDS" = some (some (.ref a_DEEDS)))
    (l_DEEDS : K.lookup a_DEEDS = some ⟨.type "tuple", od_DEEDS, .seq its_DEEDS n_DEEDS, sl_DEEDS⟩)
    (v_DEEDS : Vals [(.str "take"), (.str "look"), (.str "free")] its_DEEDS.toList)
    (g_RESERVED : PySem.W.nsIn K mainGlobals "RESERVED" = some (some (.ref a_RESERVED)))
    (l_RESERVED : K.lookup a_RESERVED = some ⟨.type "tuple", od_RESERVED, .seq its_RESERVED n_RESERVED, sl_RESERVED⟩)
    (v_RESERVED : Vals [(.str "always"), (.str "never"), (.str "and"), (.str "or"), (.str "not"), (.str "when"), (.str "add"), (.str "set"), (.str "change"), (.str "tell"), (.str "refuse"), (.str "take"), (.str "look"), (.str "free"), (.str "lock"), (.str "keep"), (.str "keys"), (.str "fields")] its_RESERVED.toList)
    (g_BadName : PySem.W.nsIn K mainGlobals "BadName" = some (some (.ref a_BadName)))
    (g_BadPlan : PySem.W.nsIn K mainGlobals "BadPlan" = some (some (.ref a_BadPlan)))
    (g_ElseputError : PySem.W.nsIn K mainGlobals "ElseputError" = some (some (.ref a_ElseputError)))
    (g_UnknownName : PySem.W.nsIn K mainGlobals "UnknownName" = some (some (.ref a_UnknownName)))
    (st_any : PySem.W.nsIn K PySem.cStatics "thirdparty.any" = some none)
    (htop : (l.prog.main.scope.names.lookup ("super" : Str)).isSome = false)
    (xc_BadName : K.lookup a_BadName = some (excClassObj nm_BadName q_BadName a_BadName N_BadName bs_BadName bm_BadName true sn_BadName sub_BadName ab_BadName col_BadName dd_BadName e0_BadName e1_BadName e2_BadName e3_BadName e5_BadName "ValueError.__new__"))
    (ref_BadName : PySem.HandSPX.refsVE bm_BadName = true)
    (sa_BadName : PySem.W.findIn K (.ref a_BadName) "__setattr__" = some (some (.builtin "object.__setattr__")))
    (eb_BadName : PySem.W.subIn K (.ref a_BadName) (.type "BaseException") = some true)
    (ty_BadName : PySem.W.typeIn K (.ref a_BadName) = some (.type "type"))
    (kC_BadName : PySem.W.keepIn K (.ref a_BadName) = true)
    (iC_BadName : PySem.W.findIn K (.ref a_BadName) "__init__" = some (some (.ref f_BadName)))
    (tI_BadName : PySem.W.typeIn K (.ref f_BadName) = some (.type "function"))
    (sup_BadName : PySem.W.ks_superIn K a_BadName a_BadName "__init__" = some (some (.builtin "ValueError.__init__")))
    (sv_BadName : PySem.W.subIn K (.ref a_BadName) (.type "ValueError") = some true)
    (mro_BadName : PySem.W.mroIn K a_BadName (.ref a_BadName) = some true)
    (no0_BadName : PySem.W.findIn K (.ref a_BadName) "name" = some none)
    (ga_BadName : PySem.W.findIn K (.ref a_BadName) "__getattribute__" = some (some (.builtin "BaseException.__getattribute__")))
    (gg_BadName : PySem.W.findIn K (.ref a_BadName) "__getattr__" = some none)
    (hd_BadName : PySem.W.hasDictIn K a_BadName = true)
    (hcl_BadName : PySem.W.findIn K (.ref a_BadName) "__class__" = some (some (.builtin "object.__class__")))
    (hn_BadName : PySem.W.specialIn K (.builtin "object.__class__") "__get__" = some (some (.builtin "getset_descriptor.__get__")))
    (ht_BadName : PySem.W.takesIn K (.builtin "object.__class__") = some true)
    (hm_BadName : PySem.W.mroIn K a_BadName (.type "object") = some true)
    (lf_BadName : K.lookup f_BadName = some ⟨oc_BadName, od_BadName, .func (PySem.W.fnX "__init__" "BadName.__init__" (defArgs s_BadName) (defBody s_BadName) (defScope s_BadName) [("__class__", cc_BadName)] .none .none doc_BadName pm_BadName none (.ref cda_BadName) ct_BadName), osl_BadName⟩)
    (cd_BadName : PySem.W.codeIn K (.ref cda_BadName) "BadName.__init__" = true)
    (lc_BadName : K.lookup cda_BadName = some ⟨ccl_BadName, cdd_BadName, .fields vs_BadName, ccs_BadName⟩)
    (v2_BadName : vs_BadName[2]? = some (.str file_BadName tf_BadName))
    (fe_BadName : ((l.prog.main.file : Str) == file_BadName) = true)
    (lcc_BadName : K.lookup cc_BadName = some ⟨cl_BadName, cld_BadName, .cell (some (.ref a_BadName)), csl_BadName⟩)
    (hD_BadName : PySem.W.clsIn K a_BadName = some cdD_BadName)
    (xc_UnknownName : K.lookup a_UnknownName = some (excClassObj nm_UnknownName q_UnknownName a_UnknownName N_UnknownName bs_UnknownName bm_UnknownName true sn_UnknownName sub_UnknownName ab_UnknownName col_UnknownName dd_UnknownName e0_UnknownName e1_UnknownName e2_UnknownName e3_UnknownName e5_UnknownName "ValueError.__new__"))
    (ref_UnknownName : PySem.HandSPX.refsVE bm_UnknownName = true)
    (sa_UnknownName : PySem.W.findIn K (.ref a_UnknownName) "__setattr__" = some (some (.builtin "object.__setattr__")))
    (eb_UnknownName : PySem.W.subIn K (.ref a_UnknownName) (.type "BaseException") = some true)
    (ty_UnknownName : PySem.W.typeIn K (.ref a_UnknownName) = some (.type "type"))
    (kC_UnknownName : PySem.W.keepIn K (.ref a_UnknownName) = true)
    (iC_UnknownName : PySem.W.findIn K (.ref a_UnknownName) "__init__" = some (some (.ref f_UnknownName)))
    (tI_UnknownName : PySem.W.typeIn K (.ref f_UnknownName) = some (.type "function"))
    (sup_UnknownName : PySem.W.ks_superIn K a_UnknownName a_UnknownName "__init__" = some (some (.builtin "ValueError.__init__")))
    (sv_UnknownName : PySem.W.subIn K (.ref a_UnknownName) (.type "ValueError") = some true)
    (mro_UnknownName : PySem.W.mroIn K a_UnknownName (.ref a_UnknownName) = some true)
    (no0_UnknownName : PySem.W.findIn K (.ref a_UnknownName) "name" = some none)
    (ga_UnknownName : PySem.W.findIn K (.ref a_UnknownName) "__getattribute__" = some (some (.builtin "BaseException.__getattribute__")))
    (gg_UnknownName : PySem.W.findIn K (.ref a_UnknownName) "__getattr__" = some none)
    (hd_UnknownName : PySem.W.hasDictIn K a_UnknownName = true)
    (hcl_UnknownName : PySem.W.findIn K (.ref a_UnknownName) "__class__" = some (some (.builtin "object.__class__")))
    (hn_UnknownName : PySem.W.specialIn K (.builtin "object.__class__") "__get__" = some (some (.builtin "getset_descriptor.__get__")))
    (ht_UnknownName : PySem.W.takesIn K (.builtin "object.__class__") = some true)
    (hm_UnknownName : PySem.W.mroIn K a_UnknownName (.type "object") = some true)
    (lf_UnknownName : K.lookup f_UnknownName = some ⟨oc_UnknownName, od_UnknownName, .func (PySem.W.fnX "__init__" "UnknownName.__init__" (defArgs s_UnknownName) (defBody s_UnknownName) (defScope s_UnknownName) [("__class__", cc_UnknownName)] .none .none doc_UnknownName pm_UnknownName none (.ref cda_UnknownName) ct_UnknownName), osl_UnknownName⟩)
    (cd_UnknownName : PySem.W.codeIn K (.ref cda_UnknownName) "UnknownName.__init__" = true)
    (lc_UnknownName : K.lookup cda_UnknownName = some ⟨ccl_UnknownName, cdd_UnknownName, .fields vs_UnknownName, ccs_UnknownName⟩)
    (v2_UnknownName : vs_UnknownName[2]? = some (.str file_UnknownName tf_UnknownName))
    (fe_UnknownName : ((l.prog.main.file : Str) == file_UnknownName) = true)
    (lcc_UnknownName : K.lookup cc_UnknownName = some ⟨cl_UnknownName, cld_UnknownName, .cell (some (.ref a_UnknownName)), csl_UnknownName⟩)
    (hD_UnknownName : PySem.W.clsIn K a_UnknownName = some cdD_UnknownName)
    (xc_BadPlan : K.lookup a_BadPlan = some (excClassObj nm_BadPlan q_BadPlan a_BadPlan N_BadPlan bs_BadPlan bm_BadPlan true sn_BadPlan sub_BadPlan ab_BadPlan col_BadPlan dd_BadPlan e0_BadPlan e1_BadPlan e2_BadPlan e3_BadPlan e5_BadPlan "ValueError.__new__"))
    (ref_BadPlan : PySem.HandSPX.refsVE bm_BadPlan = true)
    (sa_BadPlan : PySem.W.findIn K (.ref a_BadPlan) "__setattr__" = some (some (.builtin "object.__setattr__")))
    (eb_BadPlan : PySem.W.subIn K (.ref a_BadPlan) (.type "BaseException") = some true)
    (ty_BadPlan : PySem.W.typeIn K (.ref a_BadPlan) = some (.type "type"))
    (kC_BadPlan : PySem.W.keepIn K (.ref a_BadPlan) = true)
    (iC_BadPlan : PySem.W.findIn K (.ref a_BadPlan) "__init__" = some (some (.ref f_BadPlan)))
    (tI_BadPlan : PySem.W.typeIn K (.ref f_BadPlan) = some (.type "function"))
    (sup_BadPlan : PySem.W.ks_superIn K a_BadPlan a_BadPlan "__init__" = some (some (.builtin "ValueError.__init__")))
    (sv_BadPlan : PySem.W.subIn K (.ref a_BadPlan) (.type "ValueError") = some true)
    (mro_BadPlan : PySem.W.mroIn K a_BadPlan (.ref a_BadPlan) = some true)
    (ga_BadPlan : PySem.W.findIn K (.ref a_BadPlan) "__getattribute__" = some (some (.builtin "BaseException.__getattribute__")))
    (gg_BadPlan : PySem.W.findIn K (.ref a_BadPlan) "__getattr__" = some none)
    (hd_BadPlan : PySem.W.hasDictIn K a_BadPlan = true)
    (hcl_BadPlan : PySem.W.findIn K (.ref a_BadPlan) "__class__" = some (some (.builtin "object.__class__")))
    (hn_BadPlan : PySem.W.specialIn K (.builtin "object.__class__") "__get__" = some (some (.builtin "getset_descriptor.__get__")))
    (ht_BadPlan : PySem.W.takesIn K (.builtin "object.__class__") = some true)
    (hm_BadPlan : PySem.W.mroIn K a_BadPlan (.type "object") = some true)
    (lf_BadPlan : K.lookup f_BadPlan = some ⟨oc_BadPlan, od_BadPlan, .func (PySem.W.fnX "__init__" "BadPlan.__init__" (defArgs s_BadPlan) (defBody s_BadPlan) (defScope s_BadPlan) [("__class__", cc_BadPlan)] .none .none doc_BadPlan pm_BadPlan none (.ref cda_BadPlan) ct_BadPlan), osl_BadPlan⟩)
    (cd_BadPlan : PySem.W.codeIn K (.ref cda_BadPlan) "BadPlan.__init__" = true)
    (lc_BadPlan : K.lookup cda_BadPlan = some ⟨ccl_BadPlan, cdd_BadPlan, .fields vs_BadPlan, ccs_BadPlan⟩)
    (v2_BadPlan : vs_BadPlan[2]? = some (.str file_BadPlan tf_BadPlan))
    (fe_BadPlan : ((l.prog.main.file : Str) == file_BadPlan) = true)
    (lcc_BadPlan : K.lookup cc_BadPlan = some ⟨cl_BadPlan, cld_BadPlan, .cell (some (.ref a_BadPlan)), csl_BadPlan⟩)
    (hD_BadPlan : PySem.W.clsIn K a_BadPlan = some cdD_BadPlan)
    (mb_ElseputError : PySem.W.subIn K (.ref a_ElseputError) (.type "BaseException") = some true)
    (md_ElseputError : PySem.W.hasDictIn K a_ElseputError = true)
    (mt_ElseputError : PySem.W.typeIn K (.ref a_ElseputError) = some (.type "type"))
    (ms_BadName_ElseputError : PySem.W.subIn K (.ref a_BadName) (.ref a_ElseputError) = some true)
    (ms_BadPlan_ElseputError : PySem.W.subIn K (.ref a_BadPlan) (.ref a_ElseputError) = some true)
    (kit_BadName_BadName : PySem.W.kitOne K (.ref a_BadName) (.ref a_BadName) = some true)
    (kit_BadName_BadPlan : PySem.W.kitOne K (.ref a_BadName) (.ref a_BadPlan) = some false)
    (kit_BadName_UnknownName : PySem.W.kitOne K (.ref a_BadName) (.ref a_UnknownName) = some false)
    (kit_BadName_ValueError : PySem.W.kitOne K (.ref a_BadName) (.type "ValueError") = some true)
    (kit_BadPlan_BadName : PySem.W.kitOne K (.ref a_BadPlan) (.ref a_BadName) = some false)
    (kit_BadPlan_BadPlan : PySem.W.kitOne K (.ref a_BadPlan) (.ref a_BadPlan) = some true)
    (kit_BadPlan_UnknownName : PySem.W.kitOne K (.ref a_BadPlan) (.ref a_UnknownName) = some false)
    (kit_BadPlan_ValueError : PySem.W.kitOne K (.ref a_BadPlan) (.type "ValueError") = some true)
    : ∃ fd : FuncData, (∀ (s : Shared) (v : Value), BindsTo s fd ⟨[v], []⟩ [("_law_script", v)]) ∧ ∀ base : Heap, K.In base → base.Ns mainGlobals mg → FnOk l.prog w K mg base CX0 60 fa fd ["_law_script"] (spLaw K) := by
  have e := hfa.symm.trans (PySem.W.mg_of X G a_law)
  cases e
  have XK_BadName : ExK K a_BadName f_BadName ["name"] := exk_mk xc_BadName ref_BadName sa_BadName eb_BadName ty_BadName kC_BadName sup_BadName sv_BadName mro_BadName iC_BadName tI_BadName (fun f hf => by simp only [List.mem_cons, List.not_mem_nil, or_false] at hf; subst hf; exact no0_BadName) ga_BadName gg_BadName hd_BadName hcl_BadName hn_BadName ht_BadName hm_BadName
  have XK_UnknownName : ExK K a_UnknownName f_UnknownName ["name"] := exk_mk xc_UnknownName ref_UnknownName sa_UnknownName eb_UnknownName ty_UnknownName kC_UnknownName sup_UnknownName sv_UnknownName mro_UnknownName iC_UnknownName tI_UnknownName (fun f hf => by simp only [List.mem_cons, List.not_mem_nil, or_false] at hf; subst hf; exact no0_UnknownName) ga_UnknownName gg_UnknownName hd_UnknownName hcl_UnknownName hn_UnknownName ht_UnknownName hm_UnknownName
  have XK_BadPlan : ExK K a_BadPlan f_BadPlan [] := exk_mk xc_BadPlan ref_BadPlan sa_BadPlan eb_BadPlan ty_BadPlan kC_BadPlan sup_BadPlan sv_BadPlan mro_BadPlan iC_BadPlan tI_BadPlan (fun f hf => nomatch hf) ga_BadPlan gg_BadPlan hd_BadPlan hcl_BadPlan hn_BadPlan ht_BadPlan hm_BadPlan
  have T : Gs K mg t_LETTERS t_LONGEST_NAME a_DEEDS a_RESERVED a_BadName a_BadPlan a_ElseputError a_Plan a_UnknownName := { z_ValueError := PySem.W.mg_none_of X G z_ValueError, z_all := PySem.W.mg_none_of X G z_all, z_bool := PySem.W.mg_none_of X G z_bool, z_dict := PySem.W.mg_none_of X G z_dict, z_int := PySem.W.mg_none_of X G z_int, z_isinstance := PySem.W.mg_none_of X G z_isinstance, z_iter := PySem.W.mg_none_of X G z_iter, z_len := PySem.W.mg_none_of X G z_len, z_list := PySem.W.mg_none_of X G z_list, z_range := PySem.W.mg_none_of X G z_range, z_set := PySem.W.mg_none_of X G z_set, z_str := PySem.W.mg_none_of X G z_str, z_super := PySem.W.mg_none_of X G z_super, z_tuple := PySem.W.mg_none_of X G z_tuple, g_LETTERS := PySem.W.mg_of X G g_LETTERS, g_LONGEST_NAME := PySem.W.mg_of X G g_LONGEST_NAME, g_DEEDS := PySem.W.mg_of X G g_DEEDS, g_RESERVED := PySem.W.mg_of X G g_RESERVED, g_BadName := PySem.W.mg_of X G g_BadName, g_BadPlan := PySem.W.mg_of X G g_BadPlan, g_ElseputError := PySem.W.mg_of X G g_ElseputError, g_Plan := PySem.W.mg_of X G g_Plan, g_UnknownName := PySem.W.mg_of X G g_UnknownName, q_DEEDS := fun _ => .inr ⟨_, _, _, l_DEEDS, rfl, rfl, (by have e : _ = its_DEEDS.size := v_DEEDS.length.trans Array.length_toList; rw [← e]; decide), v_DEEDS⟩, q_RESERVED := fun _ => .inr ⟨_, _, _, l_RESERVED, rfl, rfl, (by have e : _ = its_RESERVED.size := v_RESERVED.length.trans Array.length_toList; rw [← e]; decide), v_RESERVED⟩, n_ElseputError := g_ElseputError, n_BadName := g_BadName, n_UnknownName := g_UnknownName, n_BadPlan := g_BadPlan, n_Plan := g_Plan, x_BadName := ⟨XK_BadName.no, XK_BadName.xf, XK_BadName.is⟩, x_UnknownName := ⟨XK_UnknownName.no, XK_UnknownName.xf, XK_UnknownName.is⟩, x_BadPlan := ⟨XK_BadPlan.no, XK_BadPlan.xf, XK_BadPlan.is⟩, cl_Plan := ⟨pg_Plan, hx_Plan, po_Plan, st_Plan⟩, rd_Plan := ⟨rr_Plan, rg_Plan⟩, na_Plan_kept := na_Plan_kept, na_Plan_locked := na_Plan_locked, na_Plan_steps := na_Plan_steps, m_BadName_ElseputError := PySem.W.exm_ref mb_ElseputError md_ElseputError mt_ElseputError ms_BadName_ElseputError, m_BadPlan_ElseputError := PySem.W.exm_ref mb_ElseputError md_ElseputError mt_ElseputError ms_BadPlan_ElseputError, k_BadName_BadName := kit_BadName_BadName, k_BadName_BadPlan := kit_BadName_BadPlan, k_BadName_UnknownName := kit_BadName_UnknownName, k_BadName_ValueError := kit_BadName_ValueError, k_BadPlan_BadName := kit_BadPlan_BadName, k_BadPlan_BadPlan := kit_BadPlan_BadPlan, k_BadPlan_UnknownName := kit_BadPlan_UnknownName, k_BadPlan_ValueError := kit_BadPlan_ValueError }
  have F_is_name := fun_mk (st := s_is_name) l_is_name c_is_name k_is_name
  have b_is_name := F_is_name.binds (ps := ["text"]) fun _ _ _ _ _ _ us hl => match us, hl with | [_], _ => rfl
  have F_check_name := fun_mk (st := s_check_name) l_check_name c_check_name k_check_name
  have b_check_name := F_check_name.binds (ps := ["text"]) fun _ _ _ _ _ _ us hl => match us, hl with | [_], _ => rfl
  have F_looked_at := fun_mk (st := s_looked_at) l_looked_at c_looked_at k_looked_at
  have b_looked_at := F_looked_at.binds (ps := ["steps"]) fun _ _ _ _ _ _ us hl => match us, hl with | [_], _ => rfl
  have F_step_fits := fun_mk (st := s_step_fits) l_step_fits c_step_fits k_step_fits
  have b_step_fits := F_step_fits.binds (ps := ["steps", "at"]) fun _ _ _ _ _ _ us hl => match us, hl with | [_, _], _ => rfl
  have F_steps_fit := fun_mk (st := s_steps_fit) l_steps_fit c_steps_fit k_steps_fit
  have b_steps_fit := F_steps_fit.binds (ps := ["steps"]) fun _ _ _ _ _ _ us hl => match us, hl with | [_], _ => rfl
  have F_keys_fit := fun_mk (st := s_keys_fit) l_keys_fit c_keys_fit k_keys_fit
  have b_keys_fit := F_keys_fit.binds (ps := ["steps", "names"]) fun _ _ _ _ _ _ us hl => match us, hl with | [_, _], _ => rfl
  have F__law_state := fun_mk (st := s__law_state) l__law_state c__law_state k__law_state
  have b__law_state := F__law_state.binds (ps := ["_law_script"]) fun _ _ _ _ _ _ us hl => match us, hl with | [_], _ => rfl
  have F__law_draw := fun_mk (st := s__law_draw) l__law_draw c__law_draw k__law_draw
  have b__law_draw := F__law_draw.binds (ps := ["_law_state_here", "_law_many"]) fun _ _ _ _ _ _ us hl => match us, hl with | [_, _], _ => rfl
  have F__law_pick := fun_mk (st := s__law_pick) l__law_pick c__law_pick k__law_pick
  have b__law_pick := F__law_pick.binds (ps := ["_law_state_here", "_law_row"]) fun _ _ _ _ _ _ us hl => match us, hl with | [_, _], _ => rfl
  have F__law_mixed := fun_mk (st := s__law_mixed) l__law_mixed c__law_mixed k__law_mixed
  have b__law_mixed := F__law_mixed.binds (ps := ["_law_state_here", "_law_row"]) fun _ _ _ _ _ _ us hl => match us, hl with | [_, _], _ => rfl
  have F__law_names := fun_mk (st := s__law_names) l__law_names c__law_names k__law_names
  have b__law_names := F__law_names.binds (ps := ["_law_state_here", "_law_many"]) fun _ _ _ _ _ _ us hl => match us, hl with | [_, _], _ => rfl
  have F__law_is_int := fun_mk (st := s__law_is_int) l__law_is_int c__law_is_int k__law_is_int
  have b__law_is_int := F__law_is_int.binds (ps := ["_law_thing"]) fun _ _ _ _ _ _ us hl => match us, hl with | [_], _ => rfl
  have F__law_same := fun_mk (st := s__law_same) l__law_same c__law_same k__law_same
  have b__law_same := F__law_same.binds (ps := ["_law_actual", "_law_due_here"]) fun _ _ _ _ _ _ us hl => match us, hl with | [_, _], _ => rfl
  have F__law_wild_steps := fun_mk (st := s__law_wild_steps) l__law_wild_steps c__law_wild_steps k__law_wild_steps
  have b__law_wild_steps := F__law_wild_steps.binds (ps := ["_law_state_here", "_law_carried"]) fun _ _ _ _ _ _ us hl => match us, hl with | [_, _], _ => rfl
  have F__law_some := fun_mk (st := s__law_some) l__law_some c__law_some k__law_some
  have b__law_some := F__law_some.binds (ps := ["_law_state_here", "_law_row", "_law_share"]) fun _ _ _ _ _ _ us hl => match us, hl with | [_, _, _], _ => rfl
  have F__law_bad_name := fun_mk (st := s__law_bad_name) l__law_bad_name c__law_bad_name k__law_bad_name
  have b__law_bad_name := F__law_bad_name.binds (ps := ["_law_state_here", "_law_good"]) fun _ _ _ _ _ _ us hl => match us, hl with | [_, _], _ => rfl
  have F_Plan___init__ := fundk_mk (st := s_Plan___init__) l_Plan___init__ c_Plan___init__ k_Plan___init__ ek1_Plan___init__ ek2_Plan___init__
  have b_Plan___init__ : Kw2 K _ ["self", "steps", "locked", "kept"] 2 "locked" "kept" (.ref e1_Plan___init__) (.ref e2_Plan___init__) := kw2_mk 2 F_Plan___init__ (fun _ _ _ _ _ _ us _ _ l => match us, l with | [_, _], _ => ⟨_, _, _, _, _, _, rfl, rfl, _, _, _, _, _, _, rfl, rfl, rfl⟩) (fun _ _ _ _ _ _ us _ _ l => match us, l with | [_, _], _ => ⟨_, _, _, _, _, _, rfl, rfl, rfl⟩) (fun _ _ _ _ _ _ us _ _ l => match us, l with | [_, _], _ => ⟨_, _, _, _, _, _, rfl, rfl, rfl⟩) (fun _ _ _ _ _ _ us _ _ l => match us, l with | [_, _], _ => rfl)
  have t1_Plan___init__ : ∀ H, SqT K H e1_Plan___init__ [] := (fun H => .inr ⟨_, _, _, el_1_Plan___init__, rfl, rfl, (by have e : _ = ei1_Plan___init__.size := v_e1_Plan___init__.length.trans Array.length_toList; rw [← e]; decide), v_e1_Plan___init__⟩)
  have t2_Plan___init__ : ∀ H, SqT K H e2_Plan___init__ [] := (fun H => .inr ⟨_, _, _, el_2_Plan___init__, rfl, rfl, (by have e : _ = ei2_Plan___init__.size := v_e2_Plan___init__.length.trans Array.length_toList; rw [← e]; decide), v_e2_Plan___init__⟩)
  have F__law_try := fun_mk (st := s__law_try) l__law_try c__law_try k__law_try
  have b__law_try := F__law_try.binds (ps := ["_law_steps", "_law_row_keys", "_law_held_keys"]) fun _ _ _ _ _ _ us hl => match us, hl with | [_, _, _], _ => rfl
  have F__law_keys_good := fun_mk (st := s__law_keys_good) l__law_keys_good c__law_keys_good k__law_keys_good
  have b__law_keys_good := F__law_keys_good.binds (ps := ["_law_row", "_law_looked"]) fun _ _ _ _ _ _ us hl => match us, hl with | [_, _], _ => rfl
  have F__law_steps_good := fun_mk (st := s__law_steps_good) l__law_steps_good c__law_steps_good k__law_steps_good
  have b__law_steps_good := F__law_steps_good.binds (ps := ["_law_steps", "_law_looked"]) fun _ _ _ _ _ _ us hl => match us, hl with | [_, _], _ => rfl
  have F__law_due := fun_mk (st := s__law_due) l__law_due c__law_due k__law_due
  have b__law_due := F__law_due.binds (ps := ["_law_steps", "_law_row_keys", "_law_held_keys", "_law_names_here"]) fun _ _ _ _ _ _ us hl => match us, hl with | [_, _, _, _], _ => rfl
  have F__law_spoiled := fun_mk (st := s__law_spoiled) l__law_spoiled c__law_spoiled k__law_spoiled
  have b__law_spoiled := F__law_spoiled.binds (ps := ["_law_state_here", "_law_plan_rows", "_law_names_here"]) fun _ _ _ _ _ _ us hl => match us, hl with | [_, _, _], _ => rfl
  have F_Plan___iter__ := fun_mk (st := s_Plan___iter__) l_Plan___iter__ c_Plan___iter__ k_Plan___iter__
  have b_Plan___iter__ := F_Plan___iter__.binds (ps := ["self"]) fun _ _ _ _ _ _ us hl => match us, hl with | [_], _ => rfl
  have F_Plan___len__ := fun_mk (st := s_Plan___len__) l_Plan___len__ c_Plan___len__ k_Plan___len__
  have b_Plan___len__ := F_Plan___len__.binds (ps := ["self"]) fun _ _ _ _ _ _ us hl => match us, hl with | [_], _ => rfl
  have F__law_shows := fun_mk (st := s__law_shows) l__law_shows c__law_shows k__law_shows
  have b__law_shows := F__law_shows.binds (ps := ["_law_plan", "_law_due_here"]) fun _ _ _ _ _ _ us hl => match us, hl with | [_, _], _ => rfl
  have F_law := fun_mk (st := s_law) l_law c_law k_law
  have b_law := F_law.binds (ps := ["_law_script"]) fun _ _ _ _ _ _ us hl => match us, hl with | [_], _ => rfl
  refine ⟨PySem.W.fnOf "law" "law" (defArgs s_law) (defBody s_law) (defScope s_law) .none kV_law dc_law pm_law an_law cd_law ct_law, fun s v => .of_eq rfl, fun base _ _ => ?_⟩
  have C_BadName : CalE l.prog w K mg base 1 "BadName" a_BadName f_BadName _ ["self", "name"] okx_BadName fs_BadName ["name"] := ⟨ok_BadName XK_BadName lf_BadName cd_BadName lc_BadName v2_BadName fe_BadName lcc_BadName hD_BadName (PySem.W.mg_none_of X G z_super) st_any htop, .all fun us hl => (match us, hl with | [_, _], _ => rfl), XK_BadName, PySem.W.mg_of X G g_BadName⟩
  have C_BadPlan : CalE0 l.prog w K mg base 1 "BadPlan" a_BadPlan f_BadPlan _ ["self"] := ⟨ok_BadPlan XK_BadPlan lf_BadPlan cd_BadPlan lc_BadPlan v2_BadPlan fe_BadPlan lcc_BadPlan hD_BadPlan (PySem.W.mg_none_of X G z_super) st_any htop, .all fun us hl => (match us, hl with | [_], _ => rfl), XK_BadPlan, PySem.W.mg_of X G g_BadPlan⟩
  have C_is_name : Cal l.prog w K mg base CX0 1 "is_name" f_is_name _ ["text"] (sp_is_name K) := ⟨ok_is_name F_is_name T, b_is_name, k_is_name, PySem.W.mg_of X G a_is_name⟩
  have C_check_name : Cal l.prog w K mg base (L2.CX l.prog w) 3 "check_name" f_check_name _ ["text"] (sp_check_name K) := ⟨ok_check_name F_check_name T C_is_name C_BadName, b_check_name, k_check_name, PySem.W.mg_of X G a_check_name⟩
  have C_looked_at : Cal l.prog w K mg base CX0 1 "looked_at" f_looked_at _ ["steps"] (sp_looked_at K) := ⟨ok_looked_at F_looked_at T, b_looked_at, k_looked_at, PySem.W.mg_of X G a_looked_at⟩
  have C_step_fits : Cal l.prog w K mg base CX0 1 "step_fits" f_step_fits _ ["steps", "at"] (sp_step_fits K) := ⟨ok_step_fits F_step_fits T, b_step_fits, k_step_fits, PySem.W.mg_of X G a_step_fits⟩
  have C_steps_fit : Cal l.prog w K mg base CX0 2 "steps_fit" f_steps_fit _ ["steps"] (sp_steps_fit K) := ⟨ok_steps_fit F_steps_fit T C_step_fits, b_steps_fit, k_steps_fit, PySem.W.mg_of X G a_steps_fit⟩
  have C_keys_fit : Cal l.prog w K mg base CX0 1 "keys_fit" f_keys_fit _ ["steps", "names"] (sp_keys_fit K) := ⟨ok_keys_fit F_keys_fit T, b_keys_fit, k_keys_fit, PySem.W.mg_of X G a_keys_fit⟩
  have C__law_state : Cal l.prog w K mg base CX0 1 "_law_state" f__law_state _ ["_law_script"] (sp__law_state K) := ⟨ok__law_state F__law_state T, b__law_state, k__law_state, PySem.W.mg_of X G a__law_state⟩
  have C__law_draw : Cal l.prog w K mg base CX0 1 "_law_draw" f__law_draw _ ["_law_state_here", "_law_many"] (sp__law_draw K) := ⟨ok__law_draw F__law_draw T, b__law_draw, k__law_draw, PySem.W.mg_of X G a__law_draw⟩
  have C__law_pick : Cal l.prog w K mg base CX0 2 "_law_pick" f__law_pick _ ["_law_state_here", "_law_row"] (sp__law_pick K) := ⟨ok__law_pick F__law_pick T C__law_draw, b__law_pick, k__law_pick, PySem.W.mg_of X G a__law_pick⟩
  have C__law_mixed : Cal l.prog w K mg base CX0 2 "_law_mixed" f__law_mixed _ ["_law_state_here", "_law_row"] (sp__law_mixed K) := ⟨ok__law_mixed F__law_mixed T C__law_draw, b__law_mixed, k__law_mixed, PySem.W.mg_of X G a__law_mixed⟩
  have C__law_names : Cal l.prog w K mg base CX0 2 "_law_names" f__law_names _ ["_law_state_here", "_law_many"] (sp__law_names K) := ⟨ok__law_names F__law_names T C__law_draw, b__law_names, k__law_names, PySem.W.mg_of X G a__law_names⟩
  have C__law_is_int : Cal l.prog w K mg base CX0 1 "_law_is_int" f__law_is_int _ ["_law_thing"] (sp__law_is_int K) := ⟨ok__law_is_int F__law_is_int T, b__law_is_int, k__law_is_int, PySem.W.mg_of X G a__law_is_int⟩
  have C__law_same : Cal l.prog w K mg base CX0 26 "_law_same" f__law_same _ ["_law_actual", "_law_due_here"] (sp__law_same K) := ⟨ok__law_same F__law_same T C__law_is_int b__law_same k__law_same (PySem.W.mg_of X G a__law_same), b__law_same, k__law_same, PySem.W.mg_of X G a__law_same⟩
  have C__law_wild_steps : Cal l.prog w K mg base CX0 3 "_law_wild_steps" f__law_wild_steps _ ["_law_state_here", "_law_carried"] (sp__law_wild_steps K) := ⟨ok__law_wild_steps F__law_wild_steps T C__law_mixed C__law_draw, b__law_wild_steps, k__law_wild_steps, PySem.W.mg_of X G a__law_wild_steps⟩
  have C__law_some : Cal l.prog w K mg base CX0 2 "_law_some" f__law_some _ ["_law_state_here", "_law_row", "_law_share"] (sp__law_some K) := ⟨ok__law_some F__law_some T C__law_draw, b__law_some, k__law_some, PySem.W.mg_of X G a__law_some⟩
  have C__law_bad_name : Cal l.prog w K mg base CX0 3 "_law_bad_name" f__law_bad_name _ ["_law_state_here", "_law_good"] (sp__law_bad_name K) := ⟨ok__law_bad_name F__law_bad_name T C__law_draw C__law_pick, b__law_bad_name, k__law_bad_name, PySem.W.mg_of X G a__law_bad_name⟩
  have C_Plan___init__ : CalK l.prog w K mg base (L2.CX l.prog w) 4 "Plan" a_Plan f_Plan___init__ _ ["self", "steps", "locked", "kept"] 2 "locked" "kept" e1_Plan___init__ e2_Plan___init__ (sp_Plan___init__ K) := ⟨ok_Plan___init__ F_Plan___init__ T C_check_name C_steps_fit C_keys_fit C_looked_at C_BadPlan, b_Plan___init__, ⟨mi_Plan, fa_Plan___init__, fn_Plan___init__, ko_Plan⟩, PySem.W.mg_of X G g_Plan, t1_Plan___init__, t2_Plan___init__⟩
  have C__law_try : Cal l.prog w K mg base CX0 6 "_law_try" f__law_try _ ["_law_steps", "_law_row_keys", "_law_held_keys"] (sp__law_try K) := ⟨ok__law_try F__law_try T C_Plan___init__, b__law_try, k__law_try, PySem.W.mg_of X G a__law_try⟩
  have C__law_keys_good : Cal l.prog w K mg base CX0 1 "_law_keys_good" f__law_keys_good _ ["_law_row", "_law_looked"] (sp__law_keys_good K) := ⟨ok__law_keys_good F__law_keys_good T, b__law_keys_good, k__law_keys_good, PySem.W.mg_of X G a__law_keys_good⟩
  have C__law_steps_good : Cal l.prog w K mg base CX0 1 "_law_steps_good" f__law_steps_good _ ["_law_steps", "_law_looked"] (sp__law_steps_good K) := ⟨ok__law_steps_good F__law_steps_good T, b__law_steps_good, k__law_steps_good, PySem.W.mg_of X G a__law_steps_good⟩
  have C__law_due : Cal l.prog w K mg base CX0 2 "_law_due" f__law_due _ ["_law_steps", "_law_row_keys", "_law_held_keys", "_law_names_here"] (sp__law_due K) := ⟨ok__law_due F__law_due T C__law_steps_good C__law_keys_good, b__law_due, k__law_due, PySem.W.mg_of X G a__law_due⟩
  have C__law_spoiled : Cal l.prog w K mg base CX0 4 "_law_spoiled" f__law_spoiled _ ["_law_state_here", "_law_plan_rows", "_law_names_here"] (sp__law_spoiled K) := ⟨ok__law_spoiled F__law_spoiled T C__law_draw C__law_pick C__law_bad_name, b__law_spoiled, k__law_spoiled, PySem.W.mg_of X G a__law_spoiled⟩
  have C_Plan___iter__ : CalIt l.prog w K mg base CX0 1 a_Plan f_Plan___iter__ (sp_Plan___iter__ K) := ⟨ok_Plan___iter__ F_Plan___iter__ b_Plan___iter__ T, ⟨fa_Plan___iter__, fn_Plan___iter__⟩⟩
  have C_Plan___len__ : CalL l.prog w K mg base CX0 1 a_Plan f_Plan___len__ _ ["self"] (sp_Plan___len__ K) := ⟨⟨ok_Plan___len__ F_Plan___len__ T, b_Plan___len__⟩, ⟨fa_Plan___len__, fn_Plan___len__⟩⟩
  have C__law_shows : Cal l.prog w K mg base CX0 27 "_law_shows" f__law_shows _ ["_law_plan", "_law_due_here"] (sp__law_shows K) := ⟨ok__law_shows F__law_shows T C__law_same C_Plan___iter__ C_Plan___len__, b__law_shows, k__law_shows, PySem.W.mg_of X G a__law_shows⟩
  exact ok_law F_law T C__law_state C__law_names C__law_wild_steps C__law_mixed C__law_due C__law_shows C__law_some C__law_spoiled C__law_try C__law_same C__law_draw C_Plan___init__
theorem walk {l : PySem.W.OpenLaw} {q : Program} {loose : List Str} {XP : (Str → Option Value) → Heap → Prop} {YP : World → Heap → Prop} {d : DefRec} {K : Params → PySem.W.Frag} (hn : l.most = some 63) (hdf : d.params.defaults = [])
    (hY : ∀ (w : World) (h : Heap), YP w h → (K w.params).In h)
    (F : ∀ (w : World) (mg : Str → Option Value) (fa : Addr) (h : Heap), (K w.params).In h → h.Ns mainGlobals mg → mg d.name = some (.ref fa) →
      ∃ fd : FuncData, (∀ (s : Shared) (u : Value), BindsTo s fd ⟨[u], []⟩ [("_law_script", u)]) ∧ ∀ base : Heap, (K w.params).In base → base.Ns mainGlobals mg → FnOk l.prog w (K w.params) mg base CX0 60 fa fd ["_law_script"] (spLaw (K w.params))) :
    PySem.W.WalkO q loose XP YP l.row.toRowW d [] (fun f vs => PySem.call f vs) :=
  L2.walk_of (n := 63) (k := 60) (x := "_law_script") (CX := fun _ => CX0) (sp := fun w => spLaw (K w.params)) hn (by decide) hdf ⟨rfl, by decide, by decide⟩ hY F (fun _ _ a ns hl _ hS => ⟨a, ns, rfl, hS, hl, fun _ => rfl⟩) fun _ _ _ _ _ z => z
end K27
open PySem PySem.W PyProof.Rows
set_option maxRecDepth 100000 in
set_option maxHeartbeats 0 in
theorem PySem.Challenge.cw_elseput_k27_rules_of_a_plan_holds : PySem.Challenge.rw_elseput_k27_rules_of_a_plan.Holds := by
  w_on; o_law; k_head; (case hw => w_witness2)
  k_fill
  refine K27.walk (l := PySem.Challenge.rw_elseput_k27_rules_of_a_plan) rfl rfl (fun w h Y => PySem.W.kIn_of Y) ?F
  case F =>
    intro w mg fa h KX G hmg
    refine' K27.all_mk KX G hmg ?g_Plan ?pg_Plan ?hx_Plan ?po_Plan ?st_Plan ?rr_Plan ?rg_Plan ?mi_Plan ?ko_Plan ?sf_Plan ?na_Plan_kept ?na_Plan_locked ?na_Plan_steps ?a_is_name ?l_is_name ?c_is_name ?k_is_name ?a_check_name ?l_check_name ?c_check_name ?k_check_name ?a_looked_at ?l_looked_at ?c_looked_at ?k_looked_at ?a_step_fits ?l_step_fits ?c_step_fits ?k_step_fits ?a_steps_fit ?l_steps_fit ?c_steps_fit ?k_steps_fit ?a_keys_fit ?l_keys_fit ?c_keys_fit ?k_keys_fit ?a__law_state ?l__law_state ?c__law_state ?k__law_state ?a__law_draw ?l__law_draw ?c__law_draw ?k__law_draw ?a__law_pick ?l__law_pick ?c__law_pick ?k__law_pick ?a__law_mixed ?l__law_mixed ?c__law_mixed ?k__law_mixed ?a__law_names ?l__law_names ?c__law_names ?k__law_names ?a__law_is_int ?l__law_is_int ?c__law_is_int ?k__law_is_int ?a__law_same ?l__law_same ?c__law_same ?k__law_same ?a__law_wild_steps ?l__law_wild_steps ?c__law_wild_steps ?k__law_wild_steps ?a__law_some ?l__law_some ?c__law_some ?k__law_some ?a__law_bad_name ?l__law_bad_name ?c__law_bad_name ?k__law_bad_name ?fa_Plan___init__ ?fn_Plan___init__ ?l_Plan___init__ ?ek1_Plan___init__ ?el_1_Plan___init__ ?v_e1_Plan___init__ ?ek2_Plan___init__ ?el_2_Plan___init__ ?v_e2_Plan___init__ ?c_Plan___init__ ?k_Plan___init__ ?a__law_try ?l__law_try ?c__law_try ?k__law_try ?a__law_keys_good ?l__law_keys_good ?c__law_keys_good ?k__law_keys_good ?a__law_steps_good ?l__law_steps_good ?c__law_steps_good ?k__law_steps_good ?a__law_due ?l__law_due ?c__law_due ?k__law_due ?a__law_spoiled ?l__law_spoiled ?c__law_spoiled ?k__law_spoiled ?fa_Plan___iter__ ?fn_Plan___iter__ ?l_Plan___iter__ ?c_Plan___iter__ ?k_Plan___iter__ ?fa_Plan___len__ ?fn_Plan___len__ ?l_Plan___len__ ?c_Plan___len__ ?k_Plan___len__ ?a__law_shows ?l__law_shows ?c__law_shows ?k__law_shows ?a_law ?l_law ?c_law ?k_law ?z_ValueError ?z_all ?z_bool ?z_dict ?z_int ?z_isinstance ?z_iter ?z_len ?z_list ?z_range ?z_set ?z_str ?z_super ?z_tuple ?g_LETTERS ?g_LONGEST_NAME ?g_DEEDS ?l_DEEDS ?v_DEEDS ?g_RESERVED ?l_RESERVED ?v_RESERVED ?g_BadName ?g_BadPlan ?g_ElseputError ?g_UnknownName ?st_any ?htop ?xc_BadName ?ref_BadName ?sa_BadName ?eb_BadName ?ty_BadName ?kC_BadName ?iC_BadName ?tI_BadName ?sup_BadName ?sv_BadName ?mro_BadName ?no0_BadName ?ga_BadName ?gg_BadName ?hd_BadName ?hcl_BadName ?hn_BadName ?ht_BadName ?hm_BadName ?lf_BadName ?cd_BadName ?lc_BadName ?v2_BadName ?fe_BadName ?lcc_BadName ?hD_BadName ?xc_UnknownName ?ref_UnknownName ?sa_UnknownName ?eb_UnknownName ?ty_UnknownName ?kC_UnknownName ?iC_UnknownName ?tI_UnknownName ?sup_UnknownName ?sv_UnknownName ?mro_UnknownName ?no0_UnknownName ?ga_UnknownName ?gg_UnknownName ?hd_UnknownName ?hcl_UnknownName ?hn_UnknownName ?ht_UnknownName ?hm_UnknownName ?lf_UnknownName ?cd_UnknownName ?lc_UnknownName ?v2_UnknownName ?fe_UnknownName ?lcc_UnknownName ?hD_UnknownName ?xc_BadPlan ?ref_BadPlan ?sa_BadPlan ?eb_BadPlan ?ty_BadPlan ?kC_BadPlan ?iC_BadPlan ?tI_BadPlan ?sup_BadPlan ?sv_BadPlan ?mro_BadPlan ?ga_BadPlan ?gg_BadPlan ?hd_BadPlan ?hcl_BadPlan ?hn_BadPlan ?ht_BadPlan ?hm_BadPlan ?lf_BadPlan ?cd_BadPlan ?lc_BadPlan ?v2_BadPlan ?fe_BadPlan ?lcc_BadPlan ?hD_BadPlan ?mb_ElseputError ?md_ElseputError ?mt_ElseputError ?ms_BadName_ElseputError ?ms_BadPlan_ElseputError ?kit_BadName_BadName ?kit_BadName_BadPlan ?kit_BadName_UnknownName ?kit_BadName_ValueError ?kit_BadPlan_BadName ?kit_BadPlan_BadPlan ?kit_BadPlan_UnknownName ?kit_BadPlan_ValueError
    (case g_Plan => k_is)
    (case pg_Plan => k_is)
    (case hx_Plan => k_is)
    (case po_Plan => k_is)
    (case st_Plan => k_is)
    (case rr_Plan => k_is)
    (case rg_Plan => k_is)
    (case mi_Plan => k_is)
    (case ko_Plan => k_is)
    (case sf_Plan => k_is)
    (case na_Plan_kept => k_is)
    (case na_Plan_locked => k_is)
    (case na_Plan_steps => k_is)
    (case a_is_name => k_is)
    (case l_is_name => k_is)
    (case c_is_name => k_is)
    (case k_is_name => k_is)
    (case a_check_name => k_is)
    (case l_check_name => k_is)
    (case c_check_name => k_is)
    (case k_check_name => k_is)
    (case a_looked_at => k_is)
    (case l_looked_at => k_is)
    (case c_looked_at => k_is)
    (case k_looked_at => k_is)
    (case a_step_fits => k_is)
    (case l_step_fits => k_is)
    (case c_step_fits => k_is)
    (case k_step_fits => k_is)
    (case a_steps_fit => k_is)
    (case l_steps_fit => k_is)
    (case c_steps_fit => k_is)
    (case k_steps_fit => k_is)
    (case a_keys_fit => k_is)
    (case l_keys_fit => k_is)
    (case c_keys_fit => k_is)
    (case k_keys_fit => k_is)
    (case a__law_state => k_is)
    (case l__law_state => k_is)
    (case c__law_state => k_is)
    (case k__law_state => k_is)
    (case a__law_draw => k_is)
    (case l__law_draw => k_is)
    (case c__law_draw => k_is)
    (case k__law_draw => k_is)
    (case a__law_pick => k_is)
    (case l__law_pick => k_is)
    (case c__law_pick => k_is)
    (case k__law_pick => k_is)
    (case a__law_mixed => k_is)
    (case l__law_mixed => k_is)
    (case c__law_mixed => k_is)
    (case k__law_mixed => k_is)
    (case a__law_names => k_is)
    (case l__law_names => k_is)
    (case c__law_names => k_is)
    (case k__law_names => k_is)
    (case a__law_is_int => k_is)
    (case l__law_is_int => k_is)
    (case c__law_is_int => k_is)
    (case k__law_is_int => k_is)
    (case a__law_same => k_is)
    (case l__law_same => k_is)
    (case c__law_same => k_is)
    (case k__law_same => k_is)
    (case a__law_wild_steps => k_is)
    (case l__law_wild_steps => k_is)
    (case c__law_wild_steps => k_is)
    (case k__law_wild_steps => k_is)
    (case a__law_some => k_is)
    (case l__law_some => k_is)
    (case c__law_some => k_is)
    (case k__law_some => k_is)
    (case a__law_bad_name => k_is)
    (case l__law_bad_name => k_is)
    (case c__law_bad_name => k_is)
    (case k__law_bad_name => k_is)
    (case fa_Plan___init__ => k_is)
    (case fn_Plan___init__ => k_is)
    (case l_Plan___init__ => k_is)
    (case ek1_Plan___init__ => k_is)
    (case el_1_Plan___init__ => k_is)
    (case v_e1_Plan___init__ => (repeat' first | exact .nil | refine .cons ⟨_, rfl⟩ ?_))
    (case ek2_Plan___init__ => k_is)
    (case el_2_Plan___init__ => k_is)
    (case v_e2_Plan___init__ => (repeat' first | exact .nil | refine .cons ⟨_, rfl⟩ ?_))
    (case c_Plan___init__ => k_is)
    (case k_Plan___init__ => k_is)
    (case a__law_try => k_is)
    (case l__law_try => k_is)
    (case c__law_try => k_is)
    (case k__law_try => k_is)
    (case a__law_keys_good => k_is)
    (case l__law_keys_good => k_is)
    (case c__law_keys_good => k_is)
    (case k__law_keys_good => k_is)
    (case a__law_steps_good => k_is)
    (case l__law_steps_good => k_is)
    (case c__law_steps_good => k_is)
    (case k__law_steps_good => k_is)
    (case a__law_due => k_is)
    (case l__law_due => k_is)
    (case c__law_due => k_is)
    (case k__law_due => k_is)
    (case a__law_spoiled => k_is)
    (case l__law_spoiled => k_is)
    (case c__law_spoiled => k_is)
    (case k__law_spoiled => k_is)
    (case fa_Plan___iter__ => k_is)
    (case fn_Plan___iter__ => k_is)
    (case l_Plan___iter__ => k_is)
    (case c_Plan___iter__ => k_is)
    (case k_Plan___iter__ => k_is)
    (case fa_Plan___len__ => k_is)
    (case fn_Plan___len__ => k_is)
    (case l_Plan___len__ => k_is)
    (case c_Plan___len__ => k_is)
    (case k_Plan___len__ => k_is)
    (case a__law_shows => k_is)
    (case l__law_shows => k_is)
    (case c__law_shows => k_is)
    (case k__law_shows => k_is)
    (case a_law => k_is)
    (case l_law => k_is)
    (case c_law => k_is)
    (case k_law => k_is)
    (case z_ValueError => k_is)
    (case z_all => k_is)
    (case z_bool => k_is)
    (case z_dict => k_is)
    (case z_int => k_is)
    (case z_isinstance => k_is)
    (case z_iter => k_is)
    (case z_len => k_is)
    (case z_list => k_is)
    (case z_range => k_is)
    (case z_set => k_is)
    (case z_str => k_is)
    (case z_super => k_is)
    (case z_tuple => k_is)
    (case g_LETTERS => k_is)
    (case g_LONGEST_NAME => k_is)
    (case g_DEEDS => k_is)
    (case l_DEEDS => k_is)
    (case v_DEEDS => (repeat' first | exact .nil | refine .cons ⟨_, rfl⟩ ?_))
    (case g_RESERVED => k_is)
    (case l_RESERVED => k_is)
    (case v_RESERVED => (repeat' first | exact .nil | refine .cons ⟨_, rfl⟩ ?_))
    (case g_BadName => k_is)
    (case g_BadPlan => k_is)
    (case g_ElseputError => k_is)
    (case g_UnknownName => k_is)
    (case st_any => k_is)
    (case htop => first | rfl | decide +kernel | k_is)
    (case xc_BadName => k_is)
    (case ref_BadName => first | rfl | decide +kernel | k_is)
    (case sa_BadName => k_is)
    (case eb_BadName => k_is)
    (case ty_BadName => k_is)
    (case kC_BadName => k_is)
    (case iC_BadName => k_is)
    (case tI_BadName => k_is)
    (case sup_BadName => ks_is)
    (case sv_BadName => k_is)
    (case mro_BadName => k_is)
    (case no0_BadName => k_is)
    (case ga_BadName => k_is)
    (case gg_BadName => k_is)
    (case hd_BadName => k_is)
    (case hcl_BadName => k_is)
    (case hn_BadName => k_is)
    (case ht_BadName => k_is)
    (case hm_BadName => k_is)
    (case lf_BadName => k_is)
    (case cd_BadName => k_is)
    (case lc_BadName => k_is)
    (case v2_BadName => first | rfl | decide +kernel | k_is)
    (case fe_BadName => first | rfl | decide +kernel | k_is)
    (case lcc_BadName => k_is)
    (case hD_BadName => k_is)
    (case xc_UnknownName => k_is)
    (case ref_UnknownName => first | rfl | decide +kernel | k_is)
    (case sa_UnknownName => k_is)
    (case eb_UnknownName => k_is)
    (case ty_UnknownName => k_is)
    (case kC_UnknownName => k_is)
    (case iC_UnknownName => k_is)
    (case tI_UnknownName => k_is)
    (case sup_UnknownName => ks_is)
    (case sv_UnknownName => k_is)
    (case mro_UnknownName => k_is)
    (case no0_UnknownName => k_is)
    (case ga_UnknownName => k_is)
    (case gg_UnknownName => k_is)
    (case hd_UnknownName => k_is)
    (case hcl_UnknownName => k_is)
    (case hn_UnknownName => k_is)
    (case ht_UnknownName => k_is)
    (case hm_UnknownName => k_is)
    (case lf_UnknownName => k_is)
    (case cd_UnknownName => k_is)
    (case lc_UnknownName => k_is)
    (case v2_UnknownName => first | rfl | decide +kernel | k_is)
    (case fe_UnknownName => first | rfl | decide +kernel | k_is)
    (case lcc_UnknownName => k_is)
    (case hD_UnknownName => k_is)
    (case xc_BadPlan => k_is)
    (case ref_BadPlan => first | rfl | decide +kernel | k_is)
    (case sa_BadPlan => k_is)
    (case eb_BadPlan => k_is)
    (case ty_BadPlan => k_is)
    (case kC_BadPlan => k_is)
    (case iC_BadPlan => k_is)
    (case tI_BadPlan => k_is)
    (case sup_BadPlan => ks_is)
    (case sv_BadPlan => k_is)
    (case mro_BadPlan => k_is)
    (case ga_BadPlan => k_is)
    (case gg_BadPlan => k_is)
    (case hd_BadPlan => k_is)
    (case hcl_BadPlan => k_is)
    (case hn_BadPlan => k_is)
    (case ht_BadPlan => k_is)
    (case hm_BadPlan => k_is)
    (case lf_BadPlan => k_is)
    (case cd_BadPlan => k_is)
    (case lc_BadPlan => k_is)
    (case v2_BadPlan => first | rfl | decide +kernel | k_is)
    (case fe_BadPlan => first | rfl | decide +kernel | k_is)
    (case lcc_BadPlan => k_is)
    (case hD_BadPlan => k_is)
    (case mb_ElseputError => k_is)
    (case md_ElseputError => k_is)
    (case mt_ElseputError => k_is)
    (case ms_BadName_ElseputError => k_is)
    (case ms_BadPlan_ElseputError => k_is)
    (case kit_BadName_BadName => kit_is)
    (case kit_BadName_BadPlan => kit_is)
    (case kit_BadName_UnknownName => kit_is)
    (case kit_BadName_ValueError => kit_is)
    (case kit_BadPlan_BadName => kit_is)
    (case kit_BadPlan_BadPlan => kit_is)
    (case kit_BadPlan_UnknownName => kit_is)
    (case kit_BadPlan_ValueError => kit_is)
