import PyProof.Rows.All
import Wide.All
import OpenK.AllK
import Wide.FinOn
import HandS.ForMost
import HandS.Wide
import HandS.TupAny
import HandS.IsInst
import HandS.Flow
import HandS.Evl
import HandS.Walk
import HandS.ExcInit
import HandS.Nested
import HandS.FStr
import HandS.TryOnly
import HandS.TryMany
import HandS.ExcIs
import HandS.ExcField
import HandS.WordsExc
import HandS.RaiseMore
import KE.KExcSuper
import KE.KExcIs
import PyProof.StrOps2
import PyProof.Rows.ReprOcc
import PyProof.Rows.StrDigits
import PyProof.Rows.StrJoinMade
import HandS.ClsMeth
import HandS.Star
import HandS.Property
import HandS.New
import HandS.ExcOwn
import HandS.More
import HandS.Dict
import HandS.Small
import KE.KOpsOwn
import OpenK.KMeth
import HandS.Conv
import HandS.Finally
import PyProof.StrLawsRepr
import HandS.Defaults
import HandS.Text
import HandS.IterVal
import KE.KOwnIter
import HandS.Strs
import HandS.Iter
import KE.GoesMore
import HandS.SetBool
import HandS.HeadHook3
import KE.KRevSl
import PySem.Challenge.RW_elseput_k03_operators_on_conditions
set_option Elab.async false
set_option linter.all false
set_option maxRecDepth 100000
/-! Own words over the hand layer: readings that compute on the values' shapes. -/
namespace El
open PySem PySem.Spec PyProof.Rows L2
section
variable {X : Cx}

theorem wk {e : Expr} {t t' : TE} (h : PE X e t) (i : ∀ σ H Q, t' σ H Q → t σ H Q) : PE X e t' :=
  ⟨fun pins s σ H Q I q => h.run pins s σ H Q I (i σ H Q q)⟩
theorem opwk {f : Value → Value → Sem Value} {r r' : R2} (h : OpR X f r) (i : ∀ x y H Q, r' x y H Q → r x y H Q) : OpR X f r' :=
  fun pins s σ H x y v u Q I rx ry q => h pins s σ H x y v u Q I rx ry (i x y H Q q)
theorem unwk {f : Value → Sem Value} {r r' : V → Hp → VK → Prop} (h : UnR X f r) (i : ∀ x H Q, r' x H Q → r x H Q) : UnR X f r' :=
  fun pins s σ H x v Q I rx q => h pins s σ H x v Q I rx (i x H Q q)
theorem cwk {f : Value} {r r' : List V → Hp → VK → Prop} (h : CallR X f r) (i : ∀ x H Q, r' x H Q → r x H Q) : CallR X f r' :=
  fun pins s σ H x v Q I rx q => h pins s σ H x v Q I rx (i x H Q q)
theorem ixwk {r r' : R2} (h : IxR X r) (i : ∀ x y H Q, r' x y H Q → r x y H Q) : IxR X r' :=
  fun a b pins s σ H x y v u Q I rx ry q => h a b pins s σ H x y v u Q I rx ry (i x y H Q q)
theorem slwk {r r' : V → Option Int → Option Int → Hp → VK → Prop} (h : SlR X r) (i : ∀ x a b H Q, r' x a b H Q → r x a b H Q) : SlR X r' :=
  fun pins s σ H x v vl vu lo hi sl Q I rx hs pl pu q => h pins s σ H x v vl vu lo hi sl Q I rx hs pl pu (i x lo hi H Q q)

/-! ### a name in its slot -/
def tV (i : Nat) : TE := fun σ H Q => match σ[i]? with | some (some v) => Q v H | _ => False
theorem v_ (i : Nat) {x : Str} {pos : Pos} (hN : X.N[i]? = some x := by rfl) (hv : Vis X.env.scope x := by first | exact Or.inl rfl | exact Or.inr (Or.inl rfl) | exact Or.inr (Or.inr rfl)) (hd : (x == ("__debug__" : Str)) = false := by decide)
    (hcd : (x == ("__classdict__" : Str)) = false := by decide) : PE X (.Name x pos) (tV i) :=
  wk (pv i hN hv hd hcd) fun σ H Q q => by
    unfold tV at q
    split at q
    · rename_i v e; exact ⟨v, e, q⟩
    · exact q.elim

/-! ### operators -/
def addM (K : PySem.W.Frag) : R2 := fun x y H Q => match x, y with
  | .int i, .int j => Q (.int (i + j)) H
  | .str i, .str j => i.length + j.length ≤ sizeLine ∧ Q (.str (i ++ j)) H
  | .ref a, .ref b => (∃ xs zs, H a = some (.lst xs) ∧ H b = some (.lst zs) ∧ xs.length + zs.length ≤ sizeLine ∧ ∀ p, H p = none → Q (.ref p) (upd H p (.lst (xs ++ zs)))) ∨ rCatT K (.ref a) (.ref b) H Q
  | _, _ => False
theorem op_addM : OpR X (binaryOp .Add) (addM X.K) := opwk (OpR.or op_add (OpR.or op_add_str (OpR.or op_cat op_catT))) fun x y H Q q => by
  unfold addM at q
  split at q
  · exact .inl ⟨_, _, rfl, rfl, q⟩
  · exact .inr (.inl ⟨_, _, rfl, rfl, q⟩)
  · rcases q with ⟨xs, zs, h1, h2, h3, h4⟩ | q
    · exact .inr (.inr (.inl ⟨_, _, xs, zs, rfl, rfl, h1, h2, h3, h4⟩))
    · exact .inr (.inr (.inr q))
  · exact q.elim
def subM : R2 := fun x y H Q => match x, y with
  | .int i, .int j => Q (.int (i - j)) H
  | _, _ => False
theorem op_subM : OpR X (binaryOp .Sub) subM := opwk op_sub fun x y H Q q => by
  unfold subM at q
  split at q
  · exact ⟨_, _, rfl, rfl, q⟩
  · exact q.elim
def mulM : R2 := fun x y H Q => match x, y with
  | .int i, .int j => (CMul i j ∨ CMulW i j) ∧ Q (.int (i * j)) H
  | .ref l, .int k => ∃ xs, H l = some (.lst xs) ∧ (-(2 ^ 63) ≤ k ∧ k < 2 ^ 63) ∧ xs.length * k.toNat ≤ sizeLine ∧ ∀ p, H p = none → Q (.ref p) (upd H p (.lst (List.replicate k.toNat xs).flatten))
  | _, _ => False
theorem op_mulM : OpR X (binaryOp .Mult) mulM := opwk (OpR.or op_mul (OpR.or op_mulW op_rep)) fun x y H Q q => by
  unfold mulM at q
  split at q
  · obtain ⟨h | h, q⟩ := q
    · exact .inl ⟨_, _, rfl, rfl, h, q⟩
    · exact .inr (.inl ⟨_, _, rfl, rfl, h, q⟩)
  · obtain ⟨xs, h1, h2, h3, h4⟩ := q
    exact .inr (.inr ⟨_, _, xs, rfl, rfl, h1, h2.1, h2.2, h3, h4⟩)
  · exact q.elim
def divM : R2 := fun x y H Q => match x, y with
  | .int i, .int j => (CDiv i j ∨ CDivW i j) ∧ Q (.int (i / j)) H
  | _, _ => False
theorem op_divM : OpR X (binaryOp .FloorDiv) divM := opwk (OpR.or op_fdiv op_fdivW) fun x y H Q q => by
  unfold divM at q
  split at q
  · obtain ⟨h | h, q⟩ := q
    · exact .inl ⟨_, _, rfl, rfl, h, q⟩
    · exact .inr ⟨_, _, rfl, rfl, h, q⟩
  · exact q.elim
def modM : R2 := fun x y H Q => match x, y with
  | .int i, .int j => 0 < j ∧ Q (.int (i % j)) H
  | _, _ => False
theorem op_modM : OpR X (binaryOp .Mod) modM := opwk op_mod fun x y H Q q => by
  unfold modM at q
  split at q
  · exact ⟨_, _, rfl, rfl, q.1, q.2⟩
  · exact q.elim
def powM : R2 := fun x y H Q => match x, y with
  | .int i, .int j => CPow i j ∧ Q (.int (i ^ j.toNat)) H
  | _, _ => False
theorem op_powM : OpR X (binaryOp .Pow) powM := opwk op_pow fun x y H Q q => by
  unfold powM at q
  split at q
  · exact ⟨_, _, rfl, rfl, q.1, q.2⟩
  · exact q.elim
def negM : V → Hp → VK → Prop := fun x H Q => match x with
  | .int i => Q (.int (-i)) H
  | _ => False
theorem un_negM : UnR X (unaryOp .USub) negM := unwk un_neg fun x H Q q => by
  unfold negM at q
  split at q
  · exact ⟨_, rfl, q⟩
  · exact q.elim

/-! ### comparisons -/
def cmpM (f : Int → Int → Bool) : R2 := fun x y H Q => match x, y with
  | .int i, .int j => Q (.bl (f i j)) H
  | _, _ => False
theorem cmpwk {f : Int → Int → Bool} {g : Value → Value → Sem Value} (h : OpR X g (rI0 fun i j => .bl (f i j))) : OpR X g (cmpM f) := opwk h fun x y H Q q => by
  unfold cmpM at q
  split at q
  · exact ⟨_, _, rfl, rfl, q⟩
  · exact q.elim
theorem op_ltM : OpR X (compareOp .Lt) (cmpM fun i j => decide (i < j)) := cmpwk op_lt
theorem op_leM : OpR X (compareOp .LtE) (cmpM fun i j => decide (i ≤ j)) := cmpwk op_le
theorem op_gtM : OpR X (compareOp .Gt) (cmpM fun i j => decide (j < i)) := cmpwk op_gt
theorem op_geM : OpR X (compareOp .GtE) (cmpM fun i j => decide (j ≤ i)) := cmpwk op_ge
/-- ==: of plain values by the values; else of data -/
def eqM (K : PySem.W.Frag) : R2 := fun x y H Q => match x, y with
  | .int i, .int j => Q (.bl (decide (i = j))) H
  | .str i, .str j => Q (.bl (decide (i = j))) H
  | .bl i, .bl j => Q (.bl (decide (i = j))) H
  | .non, .non => Q (.bl true) H
  | .non, .int _ => Q (.bl false) H
  | .int _, .non => Q (.bl false) H
  | .non, .str _ => Q (.bl false) H
  | .str _, .non => Q (.bl false) H
  | .non, .bl _ => Q (.bl false) H
  | .bl _, .non => Q (.bl false) H
  | .int _, .str _ => Q (.bl false) H
  | .str _, .int _ => Q (.bl false) H
  | .bl _, .str _ => Q (.bl false) H
  | .str _, .bl _ => Q (.bl false) H
  | x, y => rEqD K x y H Q
theorem op_eqM (hu : X.A.units + 64 < cLine) : OpR X (compareOp .Eq) (eqM X.K) := opwk (OpR.or op_eq (op_eqD hu)) fun x y H Q q => by
  unfold eqM at q
  split at q
  all_goals first
    | exact .inl ⟨rfl, by simpa using q⟩
    | exact .inr q
def neM (K : PySem.W.Frag) : R2 := fun x y H Q => match x, y with
  | .int i, .int j => Q (.bl (!decide (i = j))) H
  | .str i, .str j => Q (.bl (!decide (i = j))) H
  | .bl i, .bl j => Q (.bl (!decide (i = j))) H
  | .non, .non => Q (.bl false) H
  | .non, .int _ => Q (.bl true) H
  | .int _, .non => Q (.bl true) H
  | .non, .str _ => Q (.bl true) H
  | .str _, .non => Q (.bl true) H
  | .non, .bl _ => Q (.bl true) H
  | .bl _, .non => Q (.bl true) H
  | .int _, .str _ => Q (.bl true) H
  | .str _, .int _ => Q (.bl true) H
  | .bl _, .str _ => Q (.bl true) H
  | .str _, .bl _ => Q (.bl true) H
  | x, y => rNeD K x y H Q
theorem op_neM (hu : X.A.units + 64 < cLine) : OpR X (compareOp .NotEq) (neM X.K) := opwk (OpR.or op_ne (op_neD hu)) fun x y H Q q => by
  unfold neM at q
  split at q
  all_goals first
    | exact .inl ⟨rfl, by simpa using q⟩
    | exact .inr q
/-- is, is not: None, True, False -/
def isV (x y : V) : Bool := match x, y with
  | .non, .non => true
  | .bl a, .bl b => a == b
  | _, _ => false
def litV (y : V) : Bool := match y with | .non => true | .bl _ => true | _ => false
def isM : R2 := fun x y H Q => match litV y with | true => Q (.bl (isV x y)) H | false => False
def notM : R2 := fun x y H Q => match litV y with | true => Q (.bl (!isV x y)) H | false => False
theorem lit_cases {y : V} (h : litV y = true) : y = .non ∨ ∃ b, y = .bl b := by
  cases y with
  | non => exact .inl rfl
  | bl b => exact .inr ⟨b, rfl⟩
  | _ => exact absurd (show false = true from h) (by decide)
theorem is_other {A : Around} {E : Value → Shared → Prop} {M : Model} {x : V} {v : Value} {b : Bool} {s : Shared} {Q : Value → Shared → Prop} (rx : RelV x v) (h : Q (.bool (isV x (.bl b))) s) : wpAny M A (compareOp .Is v (.bool b)) Q E s := by
  cases x with
  | bl a =>
    cases rx
    by_cases e : a = b
    · subst e; exact wpAny_is_self rfl (by simpa [isV] using h)
    · exact wpAny_is_other rfl (fun z => e (Value.bool.inj z)) (by rw [show isV (.bl a) (.bl b) = false from beq_eq_false_iff_ne.mpr e] at h; exact h)
  | non => cases rx; exact wpAny_is_other rfl (by intro z; cases z) h
  | int i => obtain ⟨t, rfl⟩ := rx; exact wpAny_is_other rfl (by intro z; cases z) h
  | str i => obtain ⟨t, rfl⟩ := rx; exact wpAny_is_other rfl (by intro z; cases z) h
  | byt i => obtain ⟨t, rfl⟩ := rx; exact wpAny_is_other rfl (by intro z; cases z) h
  | flt i => obtain ⟨t, rfl⟩ := rx; exact wpAny_is_other rfl (by intro z; cases z) h
  | ref a => cases rx; exact wpAny_is_other rfl (by intro z; cases z) h
  | ty n => cases rx; exact wpAny_is_other rfl (by intro z; cases z) h
theorem isnot_other {A : Around} {E : Value → Shared → Prop} {M : Model} {x : V} {v : Value} {b : Bool} {s : Shared} {Q : Value → Shared → Prop} (rx : RelV x v) (h : Q (.bool (!isV x (.bl b))) s) : wpAny M A (compareOp .IsNot v (.bool b)) Q E s := by
  cases x with
  | bl a =>
    cases rx
    by_cases e : a = b
    · subst e; exact wpAny_isNot_self rfl (by simpa [isV] using h)
    · exact wpAny_isNot_other rfl (fun z => e (Value.bool.inj z)) (by rw [show isV (.bl a) (.bl b) = false from beq_eq_false_iff_ne.mpr e] at h; exact h)
  | non => cases rx; exact wpAny_isNot_other rfl (by intro z; cases z) h
  | int i => obtain ⟨t, rfl⟩ := rx; exact wpAny_isNot_other rfl (by intro z; cases z) h
  | str i => obtain ⟨t, rfl⟩ := rx; exact wpAny_isNot_other rfl (by intro z; cases z) h
  | byt i => obtain ⟨t, rfl⟩ := rx; exact wpAny_isNot_other rfl (by intro z; cases z) h
  | flt i => obtain ⟨t, rfl⟩ := rx; exact wpAny_isNot_other rfl (by intro z; cases z) h
  | ref a => cases rx; exact wpAny_isNot_other rfl (by intro z; cases z) h
  | ty n => cases rx; exact wpAny_isNot_other rfl (by intro z; cases z) h
theorem isV_non (x : V) : isV x .non = decide (x = .non) := by cases x <;> rfl
theorem op_isM : OpR X (compareOp .Is) isM := by
  intro pins s σ H x y v u Q I rx ry q
  unfold isM at q
  split at q
  · rename_i e
    rcases lit_cases e with rfl | ⟨b, rfl⟩
    · exact op_isN pins s σ H x .non v u Q I rx ry ⟨rfl, by rw [← isV_non]; exact q⟩
    · cases ry
      exact is_other rx ⟨.bl _, H, I, rfl, q⟩
  · exact q.elim
theorem op_isNotM : OpR X (compareOp .IsNot) notM := by
  intro pins s σ H x y v u Q I rx ry q
  unfold notM at q
  split at q
  · rename_i e
    rcases lit_cases e with rfl | ⟨b, rfl⟩
    · exact op_notN pins s σ H x .non v u Q I rx ry ⟨rfl, by rw [← isV_non]; exact q⟩
    · cases ry
      exact isnot_other rx ⟨.bl _, H, I, rfl, q⟩
  · exact q.elim
/-- in: a list or a tuple of plain things; a sign in a text -/
def inM (K : PySem.W.Frag) (neg : Bool) : R2 := fun x y H Q => match y with
  | .str z => ∃ c : Nat, x = .str ⟨#[c]⟩ ∧ Q (.bl (if neg then !decide (c ∈ z.cps.toList) else decide (c ∈ z.cps.toList))) H
  | .ref p => ∃ xs, (SqL K H p xs ∨ SqT K H p xs) ∧ flatV x = true ∧ xs.all flatV = true ∧ Q (.bl (if neg then !inV x xs else inV x xs)) H
  | _ => False
theorem op_inM : OpR X (compareOp .In) (inM X.K false) := opwk (OpR.or op_in_sign op_in_seq) fun x y H Q q => by
  unfold inM at q
  split at q
  · obtain ⟨c, e, q⟩ := q
    exact .inl ⟨c, _, e, rfl, q⟩
  · obtain ⟨xs, h1, h2, h3, q⟩ := q
    exact .inr ⟨_, xs, rfl, h1, h2, h3, q⟩
  · exact q.elim
theorem op_notInM : OpR X (compareOp .NotIn) (inM X.K true) := opwk (OpR.or op_notIn_sign op_notIn_seq) fun x y H Q q => by
  unfold inM at q
  split at q
  · obtain ⟨c, e, q⟩ := q
    exact .inl ⟨c, _, e, rfl, q⟩
  · obtain ⟨xs, h1, h2, h3, q⟩ := q
    exact .inr ⟨_, xs, rfl, h1, h2, h3, q⟩
  · exact q.elim

/-! ### tests -/
variable {a b : Expr} {rest : List Expr} {ta tb : TE} {pos : Pos}
def tTs (t : TE) : TT := fun σ H Q => t σ H fun x H' => match x with | .bl k => Q k H' | _ => False
theorem pt_c {op : CmpOp} {r : R2} (ho : OpR X (compareOp op) r) (ha : PE X a ta) (hb : PE X b tb) (hm : behindInMarks op b = false := by first | exact nomark _ | rfl) : PT X (.Compare a [op] [b] pos) (tTs (tOp r ta tb)) := by
  refine ⟨fun pins s σ H Q I h => ?_⟩
  refine wpAny_isTrue_Compare1 (thn (ha.run pins s σ H _ I h) fun v s1 ⟨x, H1, I1, r1, q1⟩ => thn (hb.run pins s1 σ H1 _ I1 q1) fun u s2 ⟨y, H2, I2, r2, q2⟩ =>
    thn (ho pins s2 σ H2 x y v u _ I2 r1 r2 q2) fun c s3 ⟨z, H3, I3, r3, q3⟩ => ?_) hm
  cases z with
  | bl k => cases r3; exact wpAny_truthy_bool ⟨H3, I3, q3⟩
  | _ => exact (show False from q3).elim
theorem pe_c {op : CmpOp} {r : R2} (ho : OpR X (compareOp op) r) (ha : PE X a ta) (hb : PE X b tb) (hm : behindInMarks op b = false := by first | exact nomark _ | rfl) : PE X (.Compare a [op] [b] pos) (tOp r ta tb) := pe_cmpR ho ha hb hm
/-- any value's truth -/
def tTr (K : PySem.W.Frag) (t : TE) : TT := fun σ H Q => t σ H fun x H' => match x with
  | .bl k => Q k H'
  | .non => Q false H'
  | .int i => Q (i != 0) H'
  | .str y => y.length ≤ sizeLine ∧ Q ((y.length : Int) != 0) H'
  | .ref p => (∃ xs, SqL K H' p xs ∧ Q (!xs.isEmpty) H') ∨ (∃ xs, SqT K H' p xs ∧ Q (!xs.isEmpty) H') ∨ ∃ kvs, H' p = some (.dK kvs) ∧ Q (!kvs.isEmpty) H'
  | _ => False
theorem pt_tr (ha : PE X a ta) (he : ∀ whole, isTrue a X.env whole = (do let v ← whole; standAt a.pos; holding [v] (truthy v)) := by intro _; rfl) : PT X a (tTr X.K ta) := by
  refine ⟨fun pins s σ H Q I h => ?_⟩
  refine isTrue_plain (thn (ha.run pins s σ H _ I h) fun v s1 ⟨x, H1, I1, r1, q1⟩ => tru_ok pins s1 σ H1 x v Q I1 r1 ?_) (he _)
  cases x with
  | bl k => exact ⟨k, rfl, q1⟩
  | non => exact ⟨false, rfl, q1⟩
  | int i => exact ⟨_, rfl, q1⟩
  | str y => exact ⟨_, ⟨q1.1, rfl⟩, q1.2⟩
  | ref p =>
    rcases (show (∃ xs, SqL X.K H1 p xs ∧ Q (!xs.isEmpty) H1) ∨ (∃ xs, SqT X.K H1 p xs ∧ Q (!xs.isEmpty) H1) ∨ ∃ kvs, H1 p = some (.dK kvs) ∧ Q (!kvs.isEmpty) H1 from q1) with ⟨xs, h, q⟩ | ⟨xs, h, q⟩ | ⟨xs, h, q⟩
    · exact ⟨_, .inl ⟨xs, h, rfl⟩, q⟩
    · exact ⟨_, .inr (.inl ⟨xs, h, rfl⟩), q⟩
    · exact ⟨_, .inr (.inr ⟨xs, h, rfl⟩), q⟩
  | _ => exact (show False from q1).elim
def tAndM (ta tb : TE) : TE := fun σ H Q => ta σ H fun x H1 => match x with | .bl c => (if c = true then tb σ H1 Q else Q (.bl false) H1) | _ => False
def tOrM (ta tb : TE) : TE := fun σ H Q => ta σ H fun x H1 => match x with | .bl c => (if c = true then Q (.bl true) H1 else tb σ H1 Q) | _ => False
def tNotM (ta : TE) : TE := fun σ H Q => ta σ H fun x H1 => match x with | .bl c => Q (.bl (!c)) H1 | _ => False
theorem pe_andM (ha : PE X a ta) (hb : PE X (.BoolOp .And (b :: rest) pos) tb) : PE X (.BoolOp .And (a :: b :: rest) pos) (tAndM ta tb) := by
  refine ⟨fun pins s σ H Q I h => ?_⟩
  refine BoolOp_and (thn (ha.run pins s σ H _ I h) fun v s1 ⟨x, H1, I1, r1, q1⟩ => ?_)
  cases x with
  | bl c =>
    cases r1
    refine wpAny_truthy_bool ?_
    cases c with
    | true => exact hb.run pins s1 σ H1 Q I1 q1
    | false => exact ⟨.bl false, H1, I1, rfl, q1⟩
  | _ => exact (show False from q1).elim
theorem pe_orM (ha : PE X a ta) (hb : PE X (.BoolOp .Or (b :: rest) pos) tb) : PE X (.BoolOp .Or (a :: b :: rest) pos) (tOrM ta tb) := by
  refine ⟨fun pins s σ H Q I h => ?_⟩
  refine BoolOp_or (thn (ha.run pins s σ H _ I h) fun v s1 ⟨x, H1, I1, r1, q1⟩ => ?_)
  cases x with
  | bl c =>
    cases r1
    refine wpAny_truthy_bool ?_
    cases c with
    | false => exact hb.run pins s1 σ H1 Q I1 q1
    | true => exact ⟨.bl true, H1, I1, rfl, q1⟩
  | _ => exact (show False from q1).elim
theorem pe_notM (ha : PE X a ta) : PE X (.UnaryOp .Not a pos) (tNotM ta) := by
  refine ⟨fun pins s σ H Q I h => ?_⟩
  refine UnaryOp_ (thn (ha.run pins s σ H _ I h) fun v s1 ⟨x, H1, I1, r1, q1⟩ => ?_)
  cases x with
  | bl c => cases r1; exact not_of (wpAny_truthy_bool ⟨.bl (!c), H1, I1, rfl, q1⟩)
  | _ => exact (show False from q1).elim

/-! ### subscripts, slices, calls of built-ins -/
def ixM (K : PySem.W.Frag) : R2 := fun x y H Q => match x, y with
  | .str z, .int i => z.length ≤ sizeLine ∧ ∃ c, atI z.cps.toList i = some c ∧ Q (.str ⟨#[c]⟩) H
  | .ref p, .int i => ∃ xs, (SqL K H p xs ∨ SqT K H p xs) ∧ ∃ v, atI xs i = some v ∧ Q v H
  | _, _ => False
theorem ix_M : IxR X (ixM X.K) := ixwk ix_seq fun x y H Q q => by
  unfold ixM at q
  split at q
  · obtain ⟨h, c, e, q⟩ := q
    exact .inr (.inr ⟨_, _, c, rfl, rfl, h, e, q⟩)
  · obtain ⟨xs, h | h, v, e, q⟩ := q
    · exact .inl ⟨_, xs, _, v, rfl, rfl, h, e, q⟩
    · exact .inr (.inl ⟨_, xs, _, v, rfl, rfl, h, e, q⟩)
  · exact q.elim
theorem e_ix (ha : PE X a ta) (hb : PE X b tb) (hs : PlainIx b := by intro _ _; rfl) : PE X (.Subscript a b pos) (tOp (ixM X.K) ta tb) := pe_ix ix_M ha hb hs
def slM (K : PySem.W.Frag) : V → Option Int → Option Int → Hp → VK → Prop := fun x lo hi H Q => match x with
  | .str z => z.length ≤ sizeLine ∧ Q (.str (cutS z lo hi)) H
  | .ref p => (∃ xs, SqL K H p xs ∧ ∀ q, H q = none → Q (.ref q) (upd H q (.lst (cutV xs lo hi)))) ∨ rSlT K (.ref p) lo hi H Q
  | _ => False
theorem sl_M : SlR X (slM X.K) := slwk (SlR.or sl_str (SlR.or sl_list sl_tup)) fun x lo hi H Q q => by
  unfold slM at q
  split at q
  · exact .inl ⟨_, rfl, q.1, q.2⟩
  · rcases q with ⟨xs, h, q⟩ | q
    · exact .inr (.inl ⟨_, xs, rfl, h, q⟩)
    · exact .inr (.inr q)
  · exact q.elim
def intM : List V → Hp → VK → Prop := fun xs H Q => match xs with
  | [.int i] => Q (.int i) H
  | [.bl k] => Q (.int (if k then 1 else 0)) H
  | [.str a] => ∃ n, PySem.intText? a = some n ∧ a.length ≤ 640 ∧ Q (.int n) H
  | _ => False
theorem call_intM : CallR X (.type "int") intM := cwk (CallR.or call_int1 call_int_str) fun xs H Q q => by
  unfold intM at q
  split at q
  · exact .inl (.inl ⟨_, rfl, q⟩)
  · exact .inl (.inr ⟨_, rfl, q⟩)
  · obtain ⟨n, h1, h2, q⟩ := q
    exact .inr ⟨_, n, rfl, h1, h2, q⟩
  · exact q.elim
def lenM (K : PySem.W.Frag) : List V → Hp → VK → Prop := fun xs H Q => match xs with
  | [.str z] => z.length ≤ sizeLine ∧ Q (.int z.length) H
  | [.ref p] => (∃ xs, (SqL K H p xs ∨ SqT K H p xs) ∧ Q (.int xs.length) H) ∨ ∃ kvs, H p = some (.dK kvs) ∧ Q (.int kvs.length) H
  | _ => False
theorem call_lenM : CallR X (.builtin "len") (lenM X.K) := cwk (CallR.or call_len_str (CallR.or call_len_seq call_lenD)) fun xs H Q q => by
  unfold lenM at q
  split at q
  · exact .inl ⟨_, rfl, q.1, q.2⟩
  · rcases q with ⟨xs, h, q⟩ | ⟨kvs, h, q⟩
    · exact .inr (.inl ⟨_, xs, rfl, h, q⟩)
    · exact .inr (.inr ⟨_, kvs, rfl, h, q⟩)
  · exact q.elim

/-! ### the same, the written part named -/
theorem addK (K : PySem.W.Frag) (h : X.K = K := by rfl) : OpR X (binaryOp .Add) (addM K) := h ▸ op_addM
theorem eqK (K : PySem.W.Frag) (hu : X.A.units + 64 < cLine) (h : X.K = K := by rfl) : OpR X (compareOp .Eq) (eqM K) := h ▸ op_eqM hu
theorem neK (K : PySem.W.Frag) (hu : X.A.units + 64 < cLine) (h : X.K = K := by rfl) : OpR X (compareOp .NotEq) (neM K) := h ▸ op_neM hu
theorem inK (K : PySem.W.Frag) (h : X.K = K := by rfl) : OpR X (compareOp .In) (inM K false) := h ▸ op_inM
theorem notInK (K : PySem.W.Frag) (h : X.K = K := by rfl) : OpR X (compareOp .NotIn) (inM K true) := h ▸ op_notInM
theorem pt_t (K : PySem.W.Frag) (ha : PE X a ta) (he : ∀ whole, isTrue a X.env whole = (do let v ← whole; standAt a.pos; holding [v] (truthy v)) := by intro _; rfl) (h : X.K = K := by rfl) : PT X a (tTr K ta) := h ▸ pt_tr ha he
theorem e_x (K : PySem.W.Frag) (ha : PE X a ta) (hb : PE X b tb) (hs : PlainIx b := by intro _ _; rfl) (h : X.K = K := by rfl) : PE X (.Subscript a b pos) (tOp (ixM K) ta tb) := h ▸ e_ix ha hb hs
theorem slK (K : PySem.W.Frag) (h : X.K = K := by rfl) : SlR X (slM K) := h ▸ sl_M
theorem lenK (K : PySem.W.Frag) (h : X.K = K := by rfl) : CallR X (.builtin "len") (lenM K) := h ▸ call_lenM
theorem listK (K : PySem.W.Frag) (h : X.K = K := by rfl) : CallR X (.type "list") (fun xs H Q => ∃ p ys, xs = [.ref p] ∧ (SqL K H p ys ∨ SqT K H p ys) ∧ ∀ l, H l = none → Q (.ref l) (upd H l (.lst ys))) := h ▸ call_list_of
theorem tupleK (K : PySem.W.Frag) (h : X.K = K := by rfl) : CallR X (.type "tuple") (fun xs H Q => ∃ p ys, xs = [.ref p] ∧ ((SqL K H p ys ∧ ∀ l, H l = none → Q (.ref l) (upd H l (.tup ys))) ∨ (SqT K H p ys ∧ Q (.ref p) H))) := h ▸ call_tuple_of
theorem isiK (K : PySem.W.Frag) (h : X.K = K := by rfl) : CallR X (.builtin "isinstance") (rIsi K) := h ▸ call_isi
theorem allK (K : PySem.W.Frag) (hc : X.calm = true) (h : X.K = K := by rfl) : CallR X (.builtin "all") (rAll K) := h ▸ cr_all hc
theorem anyK (K : PySem.W.Frag) (hc : X.calm = true) (h : X.K = K := by rfl) : CallR X (.builtin "any") (rAny K) := h ▸ cr_any hc
theorem sortedK (K : PySem.W.Frag) (h : X.K = K := by rfl) : CallR X (.builtin "sorted") (rSorted K) := h ▸ cr_sorted
theorem sumK (K : PySem.W.Frag) (hc : X.calm = true) (h : X.K = K := by rfl) : CallR X (.builtin "sum") (rSum K) := h ▸ cr_sum hc

/-! ### calls of own defs -/
structure Cal (P : Program) (w : World) (K : PySem.W.Frag) (mg : Str → Option Value) (base : Heap) (CX : CXT) (k : Nat) (x : Str) (f : Addr) (fd : FuncData) (ps : List Str) (sp : Sp) : Prop where
  G : FnOk P w K mg base CX k f fd ps sp
  b : Binds K fd ps []
  kp : PySem.W.keepIn K (.ref f) = true
  m : mg x = some (.ref f)
end
end El

set_option Elab.async false
set_option linter.all false
set_option maxRecDepth 100000
set_option maxHeartbeats 4000000
/-! Own words: an own exception's first row super().__init__(e), the rest of its __init__ by the layer. -/
namespace El
open PySem PySem.Spec PyProof.Rows L2 NdefX
abbrev supRow (p0 p1 p2 p3 p4 : Pos) (e1 : Expr) : Stmt := .Expr (.Call (.Attribute (.Call (.Name "super" p0) [] [] p1) "__init__" p2) [e1] [] p3) p4
abbrev supNF (name qual : Str) (params : Arguments) (body : List Stmt) (scope : Scope) (cc cda : Addr) : NF := ⟨name, qual, params, body, scope, [("__class__", cc)], cda⟩

theorem inv_unpin {X : Cx} {pins : List (Addr × Obj)} {σ : L2.St} {H : Hp} {s : Shared} (I : Inv X pins σ H s) : Inv X [] σ H s := I.pins_of fun p hp => absurd hp (by simp)

theorem fn_super {P : Program} {w : World} {K : PySem.W.Frag} {mg : Str → Option Value} {base : Heap} {CX : CXT} {k : Nat} {f cc cda D : Addr} {name qual : Str} {params : Arguments} {scope : Scope} {doc pm ct oc ccl cl : Value} {od cdd cld : Option Addr} {osl ccs csl : Array (Option Value)} {vs0 : Array Value} {file : Str} {tf : Tok} {cdD : ClassData}
    {N ps : List Str} {sp : Sp} {e1 : Expr} {rest : List Stmt} {p0 p1 p2 p3 p4 : Pos} {ar : Arg}
    (lk : K.lookup f = some ⟨oc, od, .func (PySem.W.fnX name qual params (supRow p0 p1 p2 p3 p4 e1 :: rest) scope [("__class__", cc)] .none .none doc pm none (.ref cda) ct), osl⟩)
    (hcd : PySem.W.codeIn K (.ref cda) qual = true) (S : NScope N ps ["__class__"] scope)
    (hcode : K.lookup cda = some ⟨ccl, cdd, .fields vs0, ccs⟩) (hvs : vs0[2]? = some (.str file tf)) (hfile : ((P.main.file : Str) == file) = true)
    (hcell : K.lookup cc = some ⟨cl, cld, .cell (some (.ref D)), csl⟩) (hD : PySem.W.clsIn K D = some cdD) (hsuper : mg "super" = none)
    (hop : PySem.W.nsIn K PySem.cStatics "thirdparty.any" = some none)
    (hp : (params.posonlyargs ++ params.args).head? = some ar) (hps : ps[0]? = some ar.arg)
    (hks : scope.names.lookup ("super" : Str) = some .globalImplicit) (htop : (P.main.scope.names.lookup ("super" : Str)).isSome = false)
    (hboot : bootBuiltins "super" = some (.type "super"))
    (len : ∀ vs H Q E, sp vs H Q E → vs.length = ps.length)
    (hbody : ∀ (A : Around) (outer : List Env) (s : Shared) (H : Hp) (vs : List V) (Q : VK) (E : XK), Room k (A.deeper (envF (supNF name qual params (supRow p0 p1 p2 p3 p4 e1 :: rest) scope cc cda) f s.heap.objs.size)) → sp vs H Q E →
      ∃ (a C : Addr) (ta : TA) (t : TS), vs[0]? = some (.ref a) ∧ H a = some (exo a C none) ∧ OexC K C ∧ PySem.W.mroIn K C (.ref D) = some true ∧ PySem.W.ks_superIn K C D "__init__" = some (some (.builtin "ValueError.__init__")) ∧ PySem.W.subIn K (.ref C) (.type "ValueError") = some true ∧
        PA (ncx CX P w K mg base N (supNF name qual params (supRow p0 p1 p2 p3 p4 e1 :: rest) scope cc cda) f A outer s H E) [e1] ta ∧
        PSs (ncx CX P w K mg base N (supNF name qual params (supRow p0 p1 p2 p3 p4 e1 :: rest) scope cc cda) f A outer s H E) rest t ∧
        ta (startF N vs [none]) H fun ws H1 => H1 a = some (exo a C none) ∧ ws.length ≤ 1000 ∧ t { nx := fun _ H' => Q .non H', rt := Q } (startF N vs [none]) H1)
    (hst : ∀ env : Env, starEach [e1] env = (false, eval e1 env) :: starEach [] env) {pl : Env → Sem Bool}
    (he : ∀ env : Env, eval (.Call (.Attribute (.Call (.Name "super" p0) [] [] p1) "__init__" p2) [e1] [] p3) env = (do
      let ov ← attributeBase (.Call (.Name "super" p0) [] [] p1) "__init__" env (eval (.Call (.Name "super" p0) [] [] p1) env)
      standAt p2.atName
      let (f, first) ← holding [ov] (getMethod ov "__init__" (pl env))
      callWith p3 f first (backTo p3 (starEach [e1] env)) []))
    (hsw : ∀ env : Env, swapsWith (.Call (.Attribute (.Call (.Name "super" p0) [] [] p1) "__init__" p2) [e1] [] p3) none p4.line env = pure false) :
    FnOk P w K mg base CX (k + 1) f (PySem.W.fnX name qual params (supRow p0 p1 p2 p3 p4 e1 :: rest) scope [("__class__", cc)] .none .none doc pm none (.ref cda) ct) ps sp := by
  refine ⟨len, fun A outer s H args us vs Q E hr e0 hb r hsp => ?_⟩
  have hl := len _ _ _ _ hsp
  have KX : K.In s.heap := e0.mod.kin.keeps fun b o e => (e0.bs b o e).1
  have lim : s.heap.NoLimit := e0.mod.nolimit.keeps fun b o e => (e0.bs b o e).1
  have hkc : scope.names.lookup ("__class__" : Str) = some .free := S.frk _ (List.mem_singleton.mpr rfl)
  refine PySem.ks_codeAny_call_defAt (fd := PySem.W.fnX name qual params (supRow p0 p1 p2 p3 p4 e1 :: rest) scope [("__class__", cc)] .none .none doc pm none (.ref cda) ct) (body := supRow p0 p1 p2 p3 p4 e1 :: rest) (binds := ps.zip us) hr.depth (KX _ _ lk) rfl lim
    (PySem.W.codeRec_of KX hcd) rfl hb S.nocell (fun ⟨n, _⟩ hy => S.par n (List.of_mem_zip hy).1) (fun h₁ hns kp => ?_) S.co S.gen S.kind
  obtain ⟨a, C, ta, t, hv0, hexo, TC, hmro, hsup, hsubV, hPA, hPS, hq⟩ := hbody A outer s H vs Q E (hr.deeper _) hsp
  have bcc : base.get? cc = some ⟨cl, cld, .cell (some (.ref D)), csl⟩ := e0.mod.kin _ _ hcell
  have CC : CellsAt [(("__class__" : Str), cc)] ["__class__"] [none] s.heap H := by
    refine ⟨rfl, fun y c e => ?_, fun x y c e1 e2 => ?_, fun i y hi => ?_⟩
    · have : c = cc := by
        simp only [List.lookup] at e
        split at e
        · exact (Option.some.inj e).symm
        · cases e
      subst this
      exact ⟨(e0.bs _ _ bcc).2, _, _, KX _ _ hcell, rfl⟩
    · simp only [List.lookup] at e1 e2
      split at e1
      · rename_i h1
        split at e2
        · rename_i h2
          rw [beq_iff_eq] at h1 h2
          rw [h1, h2]
        · cases e2
      · cases e1
    · have : i = 0 ∧ y = "__class__" := by
        cases i with
        | zero => simp at hi; exact ⟨rfl, hi.symm⟩
        | succ i => simp at hi
      obtain ⟨rfl, rfl⟩ := this
      exact ⟨cc, by simp [List.lookup], fun v hv => by simp at hv⟩
  have I : Inv (ncx CX P w K mg base N (supNF name qual params (supRow p0 p1 p2 p3 p4 e1 :: rest) scope cc cda) f A outer s H E) [] (startF N vs [none]) H { s with heap := h₁, toks := s.toks + (ps.zip us).length } :=
    inv_startN (F := supNF name qual params (supRow p0 p1 p2 p3 p4 e1 :: rest) scope cc cda) S hr.hd e0 hl r CC hns kp
  have KX1 : K.In h₁ := fun b o e => kp b o (KX b o e)
  obtain ⟨oD, hD1, hD2⟩ : ∃ oD, h₁.get? D = some oD ∧ oD.data = .cls cdD := by
    unfold PySem.W.clsIn at hD
    split at hD
    · rename_i c d cd' sl ho
      cases hD
      exact ⟨_, KX1 _ _ ho, rfl⟩
    · cases hD
  have ndP : ps.Nodup := by
    have q := S.nd.sublist (List.take_sublist (ps.length + 1) N)
    rw [show N.take (ps.length + 1) = ps ++ [("__class__" : Str)] from S.pre] at q
    exact (List.nodup_append.mp q).1
  obtain ⟨u0, hu0, ru0⟩ := r.get hv0
  obtain rfl : u0 = Value.ref a := ru0
  obtain ⟨t1, hga⟩ := exo_at I.hok hexo
  have hint : interactive (envF (supNF name qual params (supRow p0 p1 p2 p3 p4 e1 :: rest) scope cc cda) f s.heap.objs.size) = false := by
    have hk := S.kind
    unfold interactive
    simp [Env.blockKind, hk]
  refine PySem.ks_wpAt_execs_cons (PySem.ks_wpAt_Expr_any (PySem.ks_wpAt_MethodCall (PySem.ks_wpAt_super_base (ar := ar) hks hkc (by decide +kernel) rfl (KX1 _ _ lk) rfl hp rfl (KX1 _ _ hcode) rfl hvs hfile htop ?_) (he _)) hint (hsw _))
  obtain ⟨mb, hb1, hb2⟩ := e0.mod.blt
  have kb : ∀ b o, base.get? b = some o → h₁.get? b = some o := fun b o e => kp b o (e0.bs b o e).1
  refine PySem.W.ks_loadName_global S.kind hks (Calls.loadGlobal_builtin (e0.mod.glob.keeps kb) hsuper (hb1.keeps kb) ((hb2 _ (by decide)).trans hboot) ⟨rfl, ?_⟩)
  refine wpAny_loadName_free S.kind hkc rfl ⟨_, KX1 _ _ hcell, rfl⟩ ?_
  refine wpAny_loadName_local S.kind (S.par _ (List.mem_of_getElem? hps)) hns (zip_look ndP hps hu0) ?_
  refine PySem.ks_wpAny_isType_cls hD1 hD2 ⟨rfl, ?_⟩
  refine PySem.ks_wpAny_call_super hD1 hD2 hga rfl (fun c e => by cases e) (PySem.W.looks_mroIn KX1 hmro) (fun h2 eso k2 => ?_)
  have I2 : Inv (ncx CX P w K mg base N (supNF name qual params (supRow p0 p1 p2 p3 p4 e1 :: rest) scope cc cda) f A outer s H E) [] (startF N vs [none]) H { s with heap := h2, toks := s.toks + (ps.zip us).length } := I.kept k2
  have KX2 : K.In h2 := fun b o e => k2 b o (KX1 b o e)
  cases hcC : PySem.W.clsIn K C with
  | none => unfold PySem.W.ks_superIn at hsup; rw [hcC] at hsup; cases hsup
  | some cd =>
  unfold PySem.W.ks_superIn at hsup
  rw [hcC] at hsup
  have hga2 := k2 _ _ hga
  have INS : PySem.W.InstAt h2 a { cls := .ref C, dict := none, data := .fields #[.ref t1, .none, .none, .none, .bool false, .none] } C none := ⟨hga2, rfl, rfl, trivial⟩
  have hI : PySem.W.Looks (model P w) h2 (isInstance (.ref a) (.type "ValueError")) true := INS.type.andThen (PySem.W.looks_subIn KX2 hsubV)
  refine PySem.W.kxs_getMethod PySem.W.kxs_ValueError eso (PySem.W.looks_opaque KX2 hop) (l₀ := cd.mro) (fun A Q E s k q => wpAny_bind ((PySem.W.looks_clsIn KX2 hcC) A _ E s k (wpAny_pure q))) rfl KX2 hsup hI (PySem.W.ks_ne KX2 INS hcC) (by decide +kernel) ?_
  have I3 : Inv (ncx CX P w K mg base N (supNF name qual params (supRow p0 p1 p2 p3 p4 e1 :: rest) scope cc cda) f A outer s H E) [] (startF N vs [none]) H { s with heap := h2.push (PySem.W.kxs_mw "ValueError.__init__" a), toks := s.toks + (ps.zip us).length + 1 } := I2.kept fun b o e => Heap.get?_push_of_some _ e
  have hu : (h2.push (PySem.W.kxs_mw "ValueError.__init__" a)).get? h2.objs.size = some (PySem.W.kxs_mw "ValueError.__init__" a) := Heap.get?_push_at rfl rfl
  have hfree : H h2.objs.size = none := I2.hok.fresh (Nat.le_refl _)
  have I4 : Inv (ncx CX P w K mg base N (supNF name qual params (supRow p0 p1 p2 p3 p4 e1 :: rest) scope cc cda) f A outer s H E) [(h2.objs.size, PySem.W.kxs_mw "ValueError.__init__" a)] (startF N vs [none]) H { s with heap := h2.push (PySem.W.kxs_mw "ValueError.__init__" a), toks := s.toks + (ps.zip us).length + 1 } :=
    I3.pins_of fun p hp => by
      obtain rfl := List.mem_singleton.mp hp
      exact ⟨hu, hfree, fun z => absurd I2.lt (by rw [← z]; exact Nat.lt_irrefl _), I2.nofs (Nat.le_refl _), fun v z => by cases z⟩
  show wpAny _ _ (callWith p3 (.ref h2.objs.size) [] (backTo p3 (starEach [e1] _)) []) _ _ _
  rw [hst]
  refine PySem.W.kxs_callWith (i := "ValueError.__init__") (x := a) rfl (Calls.evalArgs_plain ?_)
  have hrun := hPA.run p3 _ _ _ _ _ I4 hq
  rw [hst] at hrun
  refine thn hrun fun us' s4 ⟨ws, H1, I5, r5, hexo1, hws, hq1⟩ => ?_
  have hu5 : s4.heap.get? h2.objs.size = some (PySem.W.kxs_mw "ValueError.__init__" a) := (I5.pin (h2.objs.size, PySem.W.kxs_mw "ValueError.__init__" a) (List.mem_append_right _ (List.mem_singleton.mpr rfl))).1
  refine ⟨hu5, ?_⟩
  obtain ⟨nm, q9, N9, bs, bm, sn, sub, ab, col, dd, k0, k1, k2', k3, k5, hC, hbm⟩ := TC.cls
  obtain ⟨t2, hga5⟩ := exo_at I5.hok hexo1
  have hC5 := I5.kIn _ _ hC
  have hus : us'.length ≤ sizeLine := by
    rw [← Paired.length r5, sizeLine_eq]
    omega
  obtain ⟨h5, g5, d5, tk5, os5⟩ := s4
  show wpAny _ _ (call (.ref h2.objs.size) ([] ++ us')) _ _ _
  rw [List.nil_append]
  refine wpAny_call (codeAny_of_tree ?_)
  show wpAny _ _ (callAny (.ref h2.objs.size) ⟨us', []⟩) _ _ _
  simp only [callAny]
  refine wpAny_bind (wpAny_load hu5 ?_)
  simp only [PySem.W.kxs_mw, show (Value.type "method-wrapper" == Value.type "method" || Value.type "method-wrapper" == Value.type "builtin_function_or_method" || Value.type "method-wrapper" == Value.type "method-wrapper") = true by decide, if_true]
  refine PySem.W.KFB.if_so (by decide) ?_
  refine wpAny_bind (PySem.W.check_bound_init PySem.F.excBase_ValueError.toExcCallFacts hC5 hga5 rfl ?_)
  refine wpAny_bind (wpAny_pure (wpAny_pure ?_))
  refine ⟨plainId_quiet PySem.F.excBase_ValueError.init.plain _, codeAny_builtin PySem.F.excBase_ValueError.initEntry ?_⟩
  refine PySem.W.exc_init_tree (cls := .ref C) (t0 := t2) (dv := none) (c2 := .none) (c3 := .none) (b4 := .bool false) hga5 hus (fun h6 k6 e6 _ => ?_)
  have J := I5.write (t' := tk5) (x := a) (e := a) (o := exo a C none) (by rw [hexo1]; exact True.intro) (.inl rfl) k6 ⟨_, e6⟩ (exo_ok e6)
  have eu : upd H1 a (exo a C none) = H1 := by
    funext b
    by_cases hb : b = a
    · rw [hb, upd_same, hexo1]
    · rw [upd_ne hb]
  rw [eu] at J
  have J0 := inv_unpin J
  refine wpAt_of_wpAny ?_
  refine wpAny_mono (hPS.run [] _ _ H1 _ J0 hq1) (fun fl s' hs => ?_) fun e s' hs => hs
  have fin : ∀ {σ' : L2.St} {H' : Hp} {v : V} {u : Value}, Inv (ncx CX P w K mg base N (supNF name qual params (supRow p0 p1 p2 p3 p4 e1 :: rest) scope cc cda) f A outer s H E) [] σ' H' s' → L2.RelV v u → Q v H' → CE outer P w H s Q u s' :=
    fun {σ' H' v u} J rv q => ⟨v, H', J.os, J.bare, J.base, J.hok, rv, q⟩
  cases fl with
  | ret u =>
    obtain ⟨v, σ', H', J, rv, q⟩ := hs
    exact fin J rv q
  | next =>
    obtain ⟨σ', H', J, q⟩ := hs
    exact fin (v := V.non) (u := Value.none) J rfl q
  | brk =>
    obtain ⟨_, _, _, q⟩ := hs
    exact False.elim q
  | cont =>
    obtain ⟨_, _, _, q⟩ := hs
    exact False.elim q
end El

set_option Elab.async false
set_option linter.all false
set_option maxRecDepth 100000
set_option maxHeartbeats 4000000
/-! Own words: what the written part says of an own exception class, isinstance of what an except clause holds. -/
namespace El
open PySem PySem.Spec PyProof.Rows L2 NdefX
/-- isinstance(e, c), e the exception that the suite holds, with a dict -/
def rIsX (K : PySem.W.Frag) (cls : Value) (d : Option Addr) (a : Addr) : List V → Hp → VK → Prop := fun xs H Q => ∃ (D dd : Addr) (fs : List (Str × V)) (c : V) (cv : Value) (b : Bool), xs = [.ref a, c] ∧ cls = .ref D ∧ d = some dd ∧ H dd = some (.xd fs) ∧ ExcC K D ∧ (∀ u, RelV c u → u = cv) ∧ PySem.W.kitOne K (.ref D) cv = some b ∧ Q (.bl b) H
theorem call_isX {X : Cx} {a : Addr} {oe : Obj} {cls : Value} {d : Option Addr} {pn : List (Addr × Obj)} (hz : Zc cls d oe) (hf : ∃ vs, oe.data = .fields vs) : CallR (X.suite a ((a, oe) :: pn)) (.builtin "isinstance") (rIsX X.K cls d a) := by
  intro pins s σ H xs us Q I r h
  obtain ⟨D, dd, fs, c, cv, b, rfl, rfl, rfl, ea, C, hcv, e, q⟩ := h
  cases r with
  | cons rx rr =>
    cases rr with
    | cons rt rr =>
      cases rr
      cases rx
      have ec := hcv _ rt
      subst ec
      obtain ⟨hget, _⟩ := I.pin (a, oe) (List.mem_append.mpr (.inl List.mem_cons_self))
      obtain ⟨vs, hv⟩ := hf
      have hx : ObjOk X.prog X.w H s.heap dd (.xd fs) := I.hok dd _ ea
      obtain ⟨mA, hns, hr⟩ := hx
      obtain ⟨od, ho, hl⟩ := lookIn_ns hns
      have J : PySem.W.InstAt s.heap a oe D (some od) := ⟨hget, hz.1, by unfold PySem.W.notCls; rw [hv] <;> rfl, by rw [hz.2]; exact ho⟩
      obtain ⟨cdD, hcD, _⟩ := PySem.W.any_some C.hd
      exact PySem.W.kia_one (PySem.W.kitx_exc (by rw [hcD]; rfl) C.hg C.hk C.hs C.ha C.hn C.ht C.hm) I.kIn J e (fun z => nomatch z) fun tk => ⟨.bl b, H, I.kept (t' := tk) fun _ _ z => z, rfl, q⟩
/-- an own exception class with its own __init__ -/
structure ExK (K : PySem.W.Frag) (C fI : Addr) (fields : List Str) : Prop where
  oex : OexC K C
  sup : PySem.W.ks_superIn K C C "__init__" = some (some (.builtin "ValueError.__init__"))
  subV : PySem.W.subIn K (.ref C) (.type "ValueError") = some true
  mro : PySem.W.mroIn K C (.ref C) = some true
  iC : PySem.W.findIn K (.ref C) "__init__" = some (some (.ref fI))
  tI : PySem.W.typeIn K (.ref fI) = some (.type "function")
  no : ∀ f ∈ fields, PySem.W.findIn K (.ref C) f = some none
  xf : XfC K C
  is : ExcC K C
/-- what a suite that catches it must know -/
structure ExV (K : PySem.W.Frag) (C : Addr) (fields : List Str) : Prop where
  no : ∀ f ∈ fields, PySem.W.findIn K (.ref C) f = some none
  xf : XfC K C
  is : ExcC K C
/-- the i-th def of the class body -/
def mthS (s : Stmt) (i : Nat) : Stmt := match s with
  | .ClassDef _ _ _ b _ _ _ _ _ _ _ => b.getD i (.Pass ⟨0, 0, 0, 0⟩)
  | _ => .Pass ⟨0, 0, 0, 0⟩
/-- the same, from what the written part answers -/
theorem exk_mk {K : PySem.W.Frag} {C fI N : Addr} {fields : List Str} {nm q : Str} {bs bm : List Value} {sn : List Str} {sub : List Value} {ab : Bool} {col : Option Bool} {dd : Option Addr} {k0 k1 k2 k3 k5 : Option Value}
    (cls : K.lookup C = some (excClassObj nm q C N bs bm true sn sub ab col dd k0 k1 k2 k3 k5 "ValueError.__new__")) (ref : PySem.HandSPX.refsVE bm = true)
    (sa : PySem.W.findIn K (.ref C) "__setattr__" = some (some (.builtin "object.__setattr__"))) (exC : PySem.W.subIn K (.ref C) (.type "BaseException") = some true) (tyC : PySem.W.typeIn K (.ref C) = some (.type "type")) (kC : PySem.W.keepIn K (.ref C) = true)
    (sup : PySem.W.ks_superIn K C C "__init__" = some (some (.builtin "ValueError.__init__"))) (subV : PySem.W.subIn K (.ref C) (.type "ValueError") = some true) (mro : PySem.W.mroIn K C (.ref C) = some true)
    (iC : PySem.W.findIn K (.ref C) "__init__" = some (some (.ref fI))) (tI : PySem.W.typeIn K (.ref fI) = some (.type "function")) (no : ∀ f ∈ fields, PySem.W.findIn K (.ref C) f = some none)
    (ga : PySem.W.findIn K (.ref C) "__getattribute__" = some (some (.builtin "BaseException.__getattribute__"))) (gg : PySem.W.findIn K (.ref C) "__getattr__" = some none) (hd : PySem.W.hasDictIn K C = true)
    (hcl : PySem.W.findIn K (.ref C) "__class__" = some (some (.builtin "object.__class__"))) (hn : PySem.W.specialIn K (.builtin "object.__class__") "__get__" = some (some (.builtin "getset_descriptor.__get__"))) (ht : PySem.W.takesIn K (.builtin "object.__class__") = some true) (hm : PySem.W.mroIn K C (.type "object") = some true) : ExK K C fI fields :=
  ⟨⟨⟨nm, q, N, bs, bm, sn, sub, ab, col, dd, k0, k1, k2, k3, k5, cls, ref⟩, sa, exC, tyC, kC⟩, sup, subV, mro, iC, tI, no, ⟨ga, gg, exC, hd⟩, ⟨ga, gg, exC, hd, hcl, hn, ht, hm⟩⟩

/-! ### an own exception's __init__, by what it keeps -/
def spE (C : Addr) (ok : List V → Prop) (fs : List V → List (Str × V)) : Sp := fun vs H Q _ => ∃ (a : Addr) (ws : List V), vs = .ref a :: ws ∧ ok ws ∧ H a = some (exo a C none) ∧
  ∀ (dx : Addr) (H' : Hp), H dx = none → dx ≠ a → H' a = some (exo a C (some dx)) → H' dx = some (exd dx (fs ws)) → (∀ b, b ≠ a → b ≠ dx → H' b = H b) → Q .non H'
theorem mk_spE {C : Addr} {ok : List V → Prop} {fs : List V → List (Str × V)} {vs : List V} {H1 : Hp} {Q : XK} (hl : vs.length ≤ 1000) (ho : ok vs) (hq : ∀ d, H1 d = none → Q (.ref C) (some d) (upd H1 d (.xd (fs vs)))) :
    vs.length ≤ 1000 ∧ ∀ a, H1 a = none → spE C ok fs (.ref a :: (vs ++ [])) (upd H1 a (exo a C none))
      (fun v H2 => v = .non ∧ ∃ (d : Addr) (fs : List (Str × V)), H2 a = some (exo a C (some d)) ∧ H2 d = some (exd d fs) ∧ H1 d = none ∧ Q (.ref C) (some d) (upd (del H2 a) d (.xd fs))) (fun _ _ _ => False) := by
  refine ⟨hl, fun a na => ⟨a, vs, by rw [List.append_nil], ho, upd_same, fun dx H' n ne e1 e2 hh => ⟨rfl, dx, fs vs, e1, e2, ?_, ?_⟩⟩⟩
  · rw [upd_ne ne] at n
    exact n
  · have nd : H1 dx = none := by rw [upd_ne ne] at n; exact n
    have e : upd (del H' a) dx (.xd (fs vs)) = upd H1 dx (.xd (fs vs)) := by
      funext b
      by_cases hb : b = dx
      · rw [hb, upd_same, upd_same]
      · rw [upd_ne hb, upd_ne hb]
        by_cases ha : b = a
        · rw [ha, del_same, na]
        · rw [del_ne ha, hh b ha hb, upd_ne ha]
    rw [e]
    exact hq dx nd
/-- the class, its __init__, ready for a raise -/
structure CalE (P : Program) (w : World) (K : PySem.W.Frag) (mg : Str → Option Value) (base : Heap) (k : Nat) (x : Str) (C f : Addr) (fd : FuncData) (ps : List Str) (ok : List V → Prop) (fs : List V → List (Str × V)) (fields : List Str) : Prop where
  G : FnOk P w K mg base CX0 k f fd ps (spE C ok fs)
  b : Binds K fd ps []
  X : ExK K C f fields
  m : mg x = some (.ref C)
/-- one store, the dict being new -/
theorem ost1 {a C : Addr} {H : Hp} {f : Str} {y : V} {Q : Hp → Prop} (ea : H a = some (exo a C none)) (q : ∀ dx H', H dx = none → dx ≠ a → H' a = some (exo a C (some dx)) → H' dx = some (exd dx [(f, y)]) → (∀ b, b ≠ a → b ≠ dx → H' b = H b) → Q H') :
    ∀ dx, H dx = none → dx ≠ a → Q (upd (upd H dx (exd dx [(f, y)])) a (exo a C (some dx))) := fun dx n ne =>
  q dx _ n ne upd_same (by rw [upd_ne ne, upd_same]) fun b h1 h2 => by rw [upd_ne h1, upd_ne h2]
end El

set_option Elab.async false
set_option linter.all false
set_option maxRecDepth 100000
/-! Own words: a text times an int, the text of an int. -/
namespace El
open PySem PySem.Spec PyProof.Rows L2
def repS (z : Str) (k : Int) : Str := if k < 1 then Str.empty else if (k == 1 || z.length == 0) = true then z else ⟨(List.replicate k.toNat z.cps).foldl (· ++ ·) #[]⟩
theorem foldl_cps : ∀ (n : Nat) (a b : Array Nat), ((List.replicate n b).foldl (· ++ ·) a).toList = a.toList ++ (List.replicate n b.toList).flatten
  | 0, a, b => by simp
  | n + 1, a, b => by
    rw [List.replicate_succ, List.foldl_cons, foldl_cps n, Array.toList_append, List.replicate_succ, List.flatten_cons, List.append_assoc]
theorem repS_cps (z : Str) (k : Int) : (repS z k).cps.toList = (List.replicate k.toNat z.cps.toList).flatten := by
  unfold repS
  split
  · rename_i h
    rw [show k.toNat = 0 by omega]
    rfl
  · split
    · rename_i h1 h
      rw [Bool.or_eq_true, beq_iff_eq, beq_iff_eq] at h
      rcases h with h | h
      · subst h
        simp
      · have : z.cps.toList = [] := List.eq_nil_of_length_eq_zero (by rw [Array.length_toList]; exact h)
        rw [this]
        simp
    · rw [foldl_cps]
      rfl
theorem repS1 {c : Nat} {k : Int} : (repS ⟨#[c]⟩ k).cps.toList = List.replicate k.toNat c := by
  rw [repS_cps]
  simp
theorem op_mulS {X : Cx} : OpR X (binaryOp .Mult) (fun x y H Q => ∃ (z : Str) (k : Int), x = .str z ∧ y = .int k ∧ k ≤ 1000 ∧ -1000 ≤ k ∧ z.length ≤ 1000 ∧ Q (.str (repS z k)) H) := by
  intro pins s σ H x y v u Q I rx ry h
  obtain ⟨z, k, rfl, rfl, h1, h2, h3, q⟩ := h
  obtain ⟨t, rfl⟩ := rx
  obtain ⟨t', rfl⟩ := ry
  have e : (2 : Int) ^ 63 = 9223372036854775808 := by decide
  refine PySem.P.mul_str ?_ (fun n1 n2 => ?_) (fun n1 n2 => ?_) ?_
  · rw [e, decide_eq_false (by omega), decide_eq_false (by omega)]
    rfl
  · rw [e]
    have : ((9223372036854775808 : Int) - 1) / 1000 ≤ (9223372036854775808 - 1) / k := by
      refine Int.le_ediv_of_mul_le (by omega) ?_
      have : (9223372036854775808 - 1) / 1000 * k ≤ (9223372036854775808 - 1) / 1000 * 1000 := Int.mul_le_mul_of_nonneg_left h1 (by decide)
      refine Int.le_trans this (by decide)
    have : (1000 : Int) ≤ (9223372036854775808 - 1) / 1000 := by decide
    omega
  · have : z.length * k.toNat ≤ 1000 * 1000 := Nat.mul_le_mul h3 (by omega)
    show decide _ = false
    refine decide_eq_false ?_
    rw [sizeLine_eq]
    omega
  · unfold repS at q
    split
    · rename_i c
      rw [if_pos c] at q
      exact ⟨by decide, .str _, H, I.tok _, ⟨_, rfl⟩, q⟩
    · rename_i c
      rw [if_neg c] at q
      split
      · rename_i c2
        rw [if_pos c2] at q
        exact ⟨.str _, H, I, ⟨_, rfl⟩, q⟩
      · rename_i c2
        rw [if_neg c2] at q
        refine ⟨?_, .str _, H, I.tok _, ⟨_, rfl⟩, q⟩
        have e2 := foldl_cps k.toNat #[] z.cps
        have e3 : ((List.replicate k.toNat z.cps).foldl (· ++ ·) #[]).size = k.toNat * z.length := by
          rw [← Array.length_toList, e2, List.length_append]
          simp
          rfl
        show ((List.replicate k.toNat z.cps).foldl (· ++ ·) #[]).size ≤ sizeLine
        rw [e3, sizeLine_eq]
        have : k.toNat * z.length ≤ 1000 * 1000 := Nat.mul_le_mul (by omega) h3
        omega
/-- times, of texts too -/
def mulSM : R2 := fun x y H Q => match x, y with
  | .str z, .int k => k ≤ 1000 ∧ -1000 ≤ k ∧ z.length ≤ 1000 ∧ Q (.str (repS z k)) H
  | _, _ => mulM x y H Q
theorem op_mulSM {X : Cx} : OpR X (binaryOp .Mult) mulSM := opwk (OpR.or op_mulS op_mulM) fun x y H Q q => by
  unfold mulSM at q
  split at q
  · exact .inl ⟨_, _, rfl, rfl, q⟩
  · exact .inr q
/-- the signs of a number's text -/
theorem int_digits {i : Int} (h : 0 ≤ i) : ∀ c ∈ ((toString i : String) : Str).cps.toList, 48 ≤ c ∧ c ≤ 57 := by
  intro c hm
  by_cases hk : c ≠ 45 ∧ (c < 48 ∨ 57 < c)
  · exact absurd hm (int_text_free' c hk i)
  · by_cases h45 : c = 45
    · exfalso
      subst h45
      obtain ⟨n, rfl⟩ := Int.eq_ofNat_of_zero_le h
      rw [signs_ofString] at hm
      obtain ⟨ch, hc, e⟩ := List.mem_map.mp hm
      have hd : ch.isDigit = true := by
        have : ch ∈ (Nat.repr n).toList := hc
        exact Nat.isDigit_of_mem_toDigits (b := 10) (n := n) (by decide) (by decide) (by simpa [Nat.repr] using this)
      have := digit_range hd
      omega
    · omega
theorem int_text_ne (i : Int) : ((toString i : String) : Str).cps.toList ≠ [] := by
  rw [signs_ofString]
  intro h
  have h := List.map_eq_nil_iff.mp h
  have nn : ∀ n : Nat, (Nat.repr n).toList ≠ [] := fun n e => by
    have : Nat.toDigits 10 n = [] := by simpa [Nat.repr] using e
    exact Nat.toDigits_ne_nil this
  cases i with
  | ofNat n => exact nn n h
  | negSucc n =>
    have : ("-" ++ Nat.repr (n + 1)).toList = [] := h
    simp at this
end El

set_option Elab.async false
set_option linter.all false
set_option maxRecDepth 100000
set_option maxHeartbeats 4000000
/-! Own words: operators of own classes, static methods. -/
namespace El
open PySem PySem.Spec PyProof.Rows L2
theorem cmpBack_of {X : Cx} {pins : List (Addr × Obj)} {σ : L2.St} {Q : VK} {u : Value} {s' : Shared} (h : EP X pins σ Q u s') : PySem.W.CmpBack (EP X pins σ Q) u s' := by
  obtain ⟨v, H', I, r, q⟩ := id h
  cases v with
  | non => cases (show u = Value.none from r); exact h
  | bl b => cases (show u = Value.bool b from r); exact h
  | int i => obtain ⟨t, e⟩ := (show ∃ t, u = Value.int i t from r); subst e; exact h
  | str i => obtain ⟨t, e⟩ := (show ∃ t, u = Value.str i t from r); subst e; exact h
  | byt i => obtain ⟨t, e⟩ := (show ∃ t, u = Value.bytes i t from r); subst e; exact h
  | flt i => obtain ⟨t, e⟩ := (show ∃ t, u = Value.float i t from r); subst e; exact h
  | ref a => cases (show u = Value.ref a from r); exact h
  | ty n => cases (show u = Value.type n from r); exact h
/-- an own class's method for an operator -/
structure OpC (K : PySem.W.Frag) (C f : Addr) (op : Operator) : Prop where
  sf : PySem.W.selfFirst K C = true
  at_ : PySem.W.findIn K (.ref C) (PySem.dunder op.info.2) = some (some (.ref f))
  fn : PySem.W.isFn K (.ref f) = true
/-- .. with a value of the built-in type T on the right -/
structure OpT (K : PySem.W.Frag) (C f : Addr) (op : Operator) (T : String) : Prop where
  c : OpC K C f op
  hr : ∃ rc, PySem.W.findIn K (.ref C) (PySem.dunderR op.info.2) = some rc ∧ (rc = none ∨ ∃ g : Addr, rc = some (.ref g))
  h1 : ∃ fo, PySem.W.findIn K (.type T) (PySem.dunder op.info.2) = some fo
  h2 : ∃ ro, PySem.W.findIn K (.type T) (PySem.dunderR op.info.2) = some ro
  sub : PySem.W.subIn K (.type T) (.ref C) = some false
structure InvC (K : PySem.W.Frag) (C f : Addr) : Prop where
  at_ : PySem.W.findIn K (.ref C) "__invert__" = some (some (.ref f))
  fn : PySem.W.isFn K (.ref f) = true
section
variable {X : Cx} {CX : CXT} {k : Nat} {C f : Addr} {fd : FuncData} {ps : List Str} {sp : Sp} {E : XK} {op : Operator}
/-- a op b, both of the class at C -/
def rOwn (C : Addr) (sp : Sp) (E : XK) : R2 := fun x y H Q => ∃ a b dx fs dy gs, x = .ref a ∧ y = .ref b ∧ H a = some (.ins C dx fs) ∧ H b = some (.ins C dy gs) ∧ sp [.ref a, .ref b] H Q E
theorem op_own (c : OpC X.K C f op) (F : FnOk X.prog X.w X.K X.mg X.base CX k f fd ps sp) (hr : Room k X.A) (hb : Binds X.K fd ps []) (hx : Passes CX X E) : OpR X (binaryOp op) (rOwn C sp E) := by
  intro pins s σ H x y v u Q I rx ry h
  obtain ⟨a, b, dx, fs, dy, gs, rfl, rfl, ea, eb, q⟩ := h
  obtain rfl : v = Value.ref a := rx
  obtain rfl : u = Value.ref b := ry
  obtain ⟨m, fr⟩ := I.fr
  obtain ⟨mA, O, _⟩ := ins_get I.hok ea
  obtain ⟨od, J, _⟩ := O.look
  obtain ⟨mB, O2, _⟩ := ins_get I.hok eb
  obtain ⟨od2, J2, _⟩ := O2.look
  refine PySem.W.binop_K fr I.ok.mod.kin J J2.type c.sf c.at_ c.fn ?_
  refine wpAny_mono (run_fn (us := [.ref a, .ref b]) (vs := [.ref a, .ref b]) (ds := []) (dvs := []) F hr hb .nil hx I (.cons rfl (.cons rfl .nil)) q) (fun u' s' h' => cmpBack_of h') fun _ _ z => z
/-- a op n, n an int -/
def rOwnI (C : Addr) (sp : Sp) (E : XK) : R2 := fun x y H Q => ∃ a dx fs i, x = .ref a ∧ y = .int i ∧ H a = some (.ins C dx fs) ∧ sp [.ref a, .int i] H Q E
theorem op_ownI (c : OpT X.K C f op "int") (F : FnOk X.prog X.w X.K X.mg X.base CX k f fd ps sp) (hr : Room k X.A) (hb : Binds X.K fd ps []) (hx : Passes CX X E) : OpR X (binaryOp op) (rOwnI C sp E) := by
  intro pins s σ H x y v u Q I rx ry h
  obtain ⟨a, dx, fs, i, rfl, rfl, ea, q⟩ := h
  obtain rfl : v = Value.ref a := rx
  obtain ⟨t, rfl⟩ := ry
  obtain ⟨m, fr⟩ := I.fr
  obtain ⟨mA, O, _⟩ := ins_get I.hok ea
  obtain ⟨od, J, _⟩ := O.look
  obtain ⟨rc, hr1, hr2⟩ := c.hr
  obtain ⟨fo, h1⟩ := c.h1
  obtain ⟨ro, h2⟩ := c.h2
  refine PySem.W.ksp_binT fr I.ok.mod.kin J (T := "int") rfl c.c.sf c.c.at_ c.c.fn hr1 hr2 h1 h2 c.sub ?_
  refine wpAny_mono (run_fn (us := [.ref a, .int i t]) (vs := [.ref a, .int i]) (ds := []) (dvs := []) F hr hb .nil hx I (.cons rfl (.cons ⟨t, rfl⟩ .nil)) q) (fun u' s' h' => cmpBack_of h') fun _ _ z => z
/-- ~a -/
theorem un_own (c : InvC X.K C f) (F : FnOk X.prog X.w X.K X.mg X.base CX k f fd ps sp) (hr : Room k X.A) (hb : Binds X.K fd ps []) (hx : Passes CX X E) : UnR X (unaryOp .Invert) (fun x H Q => ∃ a dx fs, x = .ref a ∧ H a = some (.ins C dx fs) ∧ sp [.ref a] H Q E) := by
  intro pins s σ H x v Q I rx h
  obtain ⟨a, dx, fs, rfl, ea, q⟩ := h
  obtain rfl : v = Value.ref a := rx
  obtain ⟨m, fr⟩ := I.fr
  obtain ⟨mA, O, _⟩ := ins_get I.hok ea
  obtain ⟨od, J, _⟩ := O.look
  exact PySem.W.ksp_inv fr I.ok.mod.kin J c.at_ c.fn (run_fn (us := [.ref a]) (vs := [.ref a]) (ds := []) (dvs := []) F hr hb .nil hx I (.cons rfl .nil) q)
end

section
variable {X : Cx} {CX : CXT} {k : Nat} {C f : Addr} {fd : FuncData} {ps : List Str} {sp : Sp} {E : L2.St → XK} {op : Operator} {a b : Expr} {ta tb : TE} {pos : Pos}
/-- .. what it lets out being taken where it stands -/
def tOwnS (C : Addr) (sp : Sp) (E : L2.St → XK) (ta tb : TE) : TE := fun σ H Q => ta σ H fun x H1 => tb σ H1 fun y H2 => ∃ a b dx fs dy gs, x = .ref a ∧ y = .ref b ∧ H2 a = some (.ins C dx fs) ∧ H2 b = some (.ins C dy gs) ∧ sp [.ref a, .ref b] H2 Q (E σ)
theorem pe_bopS (c : OpC X.K C f op) (F : FnOk X.prog X.w X.K X.mg X.base CX k f fd ps sp) (hr : Room k X.A) (hb : Binds X.K fd ps []) (hx : ∀ σ, PassesAt CX X σ (E σ)) (ha : PE X a ta) (hb2 : PE X b tb) : PE X (.BinOp a op b pos) (tOwnS C sp E ta tb) := by
  refine ⟨fun pins s σ H Q I h => ?_⟩
  refine wpAny_BinOp (thn (ha.run pins s σ H _ I h) fun v s1 ⟨x, H1, I1, rx, q1⟩ => thn (hb2.run pins s1 σ H1 _ I1 q1) fun u s2 ⟨y, H2, I2, ry, a, b, dx, fs, dy, gs, ex, ey, ea, eb, q⟩ => ?_)
  subst ex ey
  obtain rfl : v = Value.ref a := rx
  obtain rfl : u = Value.ref b := ry
  obtain ⟨m, fr⟩ := I2.fr
  obtain ⟨mA, O, _⟩ := ins_get I2.hok ea
  obtain ⟨od, J, _⟩ := O.look
  obtain ⟨mB, O2, _⟩ := ins_get I2.hok eb
  obtain ⟨od2, J2, _⟩ := O2.look
  refine PySem.W.binop_K fr I2.ok.mod.kin J J2.type c.sf c.at_ c.fn ?_
  refine wpAny_mono (run_fnS (us := [.ref a, .ref b]) (vs := [.ref a, .ref b]) F hr hb (hx σ) I2 (.cons rfl (.cons rfl .nil)) q) (fun u' s' h' => cmpBack_of h') fun _ _ z => z
end

/-! ### static methods, by the class's name -/
structure SMet (K : PySem.W.Frag) (C : Addr) (mc : Value) (m : Str) (p g : Addr) : Prop where
  at_ : PySem.W.findCls K (.ref C) mc m = some (.get (.builtin "staticmethod.__get__") (.ref p) .none (.ref C))
  rc : ∃ rest, PySem.W.recIn K p "staticmethod" = some (.ref g :: rest)
  kp : PySem.W.keepIn K (.ref g) = true
section
variable {X : Cx} {CX : CXT} {k : Nat} {C p g : Addr} {mc : Value} {fd : FuncData} {ps : List Str} {sp : Sp} {E : XK} {o e : Expr} {es : List Expr} {m : Str} {pos apos : Pos} {ta : TE} {t : TA} {pl : Sem Bool}
def tSM (C : Addr) (sp : Sp) (E : XK) (ta : TE) (t : TA) : TE := fun σ H Q => ta σ H fun x H1 => x = .ref C ∧ t σ H1 fun vs H2 => sp vs H2 Q E
theorem getsm_ok {pins : List (Addr × Obj)} {σ : L2.St} {H : Hp} {s : Shared} {A : Around} {E : Value → Shared → Prop} {Q : Value × List Value → Shared → Prop} (I : Inv X pins σ H s) (r : ClX.CRead X.K C mc) (c : SMet X.K C mc m p g)
    (h : ∀ s', Inv X pins σ H s' → Q (.ref g, []) s') : wpAny (model X.prog X.w) A (getMethod (.ref C) m pl) Q E s := by
  obtain ⟨rest, hp⟩ := c.rc
  refine PySem.W.method_cls I.kIn r.ga ?_
  refine PySem.W.cls_bind I.kIn r.rd c.at_ ?_
  exact wpAny_call (PySem.W.sm_get (s := { s with toks := s.toks + 1 }) I.kIn hp (PySem.W.handed_on rfl (h _ (I.tok _))))
theorem pe_smeth (he : PE X o ta) (r : ClX.CRead X.K C mc) (c : SMet X.K C mc m p g) (F : FnOk X.prog X.w X.K X.mg X.base CX k g fd ps sp) (hr : Room k X.A) (hb : Binds X.K fd ps []) (hx : Passes CX X E) (ha : PA X (e :: es) t)
    (hst : starEach (e :: es) X.env = (false, eval e X.env) :: starEach es X.env := by rfl) (hpl : (backTo pos (starEach es X.env)).any (·.1) = false := by rfl)
    (ht : eval (.Call (.Attribute o m apos) (e :: es) [] pos) X.env = (do
      let ov ← eval o X.env
      standAt apos.atName
      let (f, first) ← holding [ov] (getMethod ov m pl)
      callWith pos f first (backTo pos (starEach (e :: es) X.env)) (backToKw pos (keywordEach [] X.env))) := by rfl) :
    PE X (.Call (.Attribute o m apos) (e :: es) [] pos) (tSM C sp E ta t) := by
  refine ⟨fun pins s σ H Q I h => ?_⟩
  refine PySem.W.methodCall_KW (pl := pl) (thn (he.run pins s σ H _ I h) fun u s1 ⟨x, H1, I1, rx, ex, q⟩ => ?_) ht
  subst ex
  obtain rfl : u = Value.ref C := rx
  refine getsm_ok I1 r c fun s2 I2 => ?_
  refine PySem.W.callWith_K (h₀ := X.base) I2.ok.mod.kin c.kp (thn (ha.run pos pins s2 σ H1 _ I2 q) fun us s3 ⟨vs, H2, I3, rv, q2⟩ => ⟨I3.kIn, ?_⟩) hst hpl
  have hl : sp (vs ++ []) H2 Q E := by rw [List.append_nil]; exact q2
  exact run_fn (ds := []) (dvs := []) F hr hb .nil hx I3 rv hl
theorem pe_smeth0 (he : PE X o ta) (r : ClX.CRead X.K C mc) (c : SMet X.K C mc m p g) (F : FnOk X.prog X.w X.K X.mg X.base CX k g fd ps sp) (hr : Room k X.A) (hb : Binds X.K fd ps []) (hx : Passes CX X E)
    (ht : eval (.Call (.Attribute o m apos) [] [] pos) X.env = (do
      let ov ← eval o X.env
      standAt apos.atName
      let (f, first) ← holding [ov] (getMethod ov m pl)
      callWith pos f first (backTo pos (starEach [] X.env)) (backToKw pos (keywordEach [] X.env))) := by rfl) :
    PE X (.Call (.Attribute o m apos) [] [] pos) (tSM C sp E ta tNil) := by
  refine ⟨fun pins s σ H Q I h => ?_⟩
  refine PySem.W.methodCall_KW (pl := pl) (thn (he.run pins s σ H _ I h) fun u s1 ⟨x, H1, I1, rx, ex, q⟩ => ?_) ht
  subst ex
  obtain rfl : u = Value.ref C := rx
  refine getsm_ok I1 r c fun s2 I2 => ?_
  exact PySem.W.callWith_K0 I2.kIn c.kp (run_fn (us := []) (vs := []) (ds := []) (dvs := []) F hr hb .nil hx I2 .nil q)
end

/-! ### defs of own classes, ready to be called -/
structure CalB (P : Program) (w : World) (K : PySem.W.Frag) (mg : Str → Option Value) (base : Heap) (CX : CXT) (k : Nat) (f : Addr) (fd : FuncData) (ps : List Str) (sp : Sp) : Prop where
  G : FnOk P w K mg base CX k f fd ps sp
  b : Binds K fd ps []
structure CalI (P : Program) (w : World) (K : PySem.W.Frag) (mg : Str → Option Value) (base : Heap) (CX : CXT) (k : Nat) (x : Str) (C f : Addr) (fd : FuncData) (ps : List Str) (sp : Sp) : Prop extends CalB P w K mg base CX k f fd ps sp where
  mkc : Mk K C f
  m : mg x = some (.ref C)
structure CalS (P : Program) (w : World) (K : PySem.W.Frag) (mg : Str → Option Value) (base : Heap) (CX : CXT) (k : Nat) (C p : Addr) (m : Str) (f : Addr) (fd : FuncData) (ps : List Str) (sp : Sp) : Prop extends CalB P w K mg base CX k f fd ps sp where
  rd : ClX.CRead K C (.type "type")
  sm : SMet K C (.type "type") m p f
structure CalP (P : Program) (w : World) (K : PySem.W.Frag) (mg : Str → Option Value) (base : Heap) (CX : CXT) (k : Nat) (C p : Addr) (m : Str) (f : Addr) (fd : FuncData) (ps : List Str) (sp : Sp) : Prop extends CalB P w K mg base CX k f fd ps sp where
  cl : Cls K C
  pr : PropOf K C m p f
structure CalO (P : Program) (w : World) (K : PySem.W.Frag) (mg : Str → Option Value) (base : Heap) (CX : CXT) (k : Nat) (C : Addr) (op : Operator) (f : Addr) (fd : FuncData) (ps : List Str) (sp : Sp) : Prop extends CalB P w K mg base CX k f fd ps sp where
  op : OpC K C f op
structure CalC (P : Program) (w : World) (K : PySem.W.Frag) (mg : Str → Option Value) (base : Heap) (CX : CXT) (k : Nat) (C f : Addr) (fd : FuncData) (ps : List Str) (sp : Sp) : Prop extends CalB P w K mg base CX k f fd ps sp where
  co : StX.CallO K C f

/-! ### the written part named (in comprehensions) -/
section
variable {X : Cx} {e : Expr} {es : List Expr} {f : Str} {pos p : Pos} {ta : TE} {t : TA}
theorem e_f (K : PySem.W.Frag) (he : PE X e ta) (hb : attributeBase e f X.env (eval e X.env) = eval e X.env := by rfl) (h : X.K = K := by rfl) : PE X (.Attribute e f pos) (tFld K ta f) := h ▸ pe_fld he hb
theorem e_cv (K : PySem.W.Frag) (he : PE X e ta) (hb : attributeBase e f X.env (eval e X.env) = eval e X.env := by rfl) (h : X.K = K := by rfl) : PE X (.Attribute e f pos) (ClX.tCVal K ta f) := h ▸ ClX.pe_cval he hb
end

/-! ### len of an own class -/
structure LenC (K : PySem.W.Frag) (C f : Addr) : Prop where
  at_ : PySem.W.findIn K (.ref C) "__len__" = some (some (.ref f))
  fn : PySem.W.isFn K (.ref f) = true
theorem call_lenO {X : Cx} {k : Nat} {C f : Addr} {fd : FuncData} {ps : List Str} {sp : Sp} (c : LenC X.K C f) (F : FnOk X.prog X.w X.K X.mg X.base CX0 k f fd ps sp) (hr : Room (k + 1) X.A) (hb : Binds X.K fd ps []) :
    CallR X (.builtin "len") (fun xs H Q => ∃ a dx fs, xs = [.ref a] ∧ H a = some (.ins C dx fs) ∧ sp [.ref a] H (fun v H' => ∃ n : Int, v = .int n ∧ 0 ≤ n ∧ n < 2 ^ 62 ∧ Q (.int n) H') E0) := by
  intro pins s σ H xs us Q I r h
  obtain ⟨a, dx, fs, rfl, ea, q⟩ := h
  obtain rfl := Vals.ref1 r
  obtain ⟨m, fr⟩ := I.fr
  obtain ⟨mA, O, _⟩ := ins_get I.hok ea
  obtain ⟨od, J, _⟩ := O.look
  refine PySem.W.len_K fr I.ok.mod.kin J c.at_ c.fn ?_
  have hl : ([Value.ref a] ++ []).length = ps.length := (F.len _ _ _ _ q)
  have b := hb s [.ref a] I.kIn hl
  rw [List.append_nil] at b
  refine wpAny_call (codeAny_mono (F.run X.A.in1 X.stack s H ⟨[.ref a], []⟩ [.ref a] [.ref a] _ E0 hr.in1 I.env0.in1 b (.cons rfl .nil) q) fun r s' hq' => ?_)
  cases r with
  | error e => exact False.elim hq'
  | ok fl =>
    cases fl with
    | ret u =>
      obtain ⟨v, H', I3, rv, n, rfl, h0, h1, q3⟩ := I.after hq'
      obtain ⟨t, rfl⟩ := rv
      exact ⟨⟨h0, Int.lt_trans h1 (by decide)⟩, ⟨.int n, H', I3.tok _, ⟨_, rfl⟩, q3⟩⟩
    | next => exact False.elim hq'
    | brk => exact False.elim hq'
    | cont => exact False.elim hq'
structure CalL (P : Program) (w : World) (K : PySem.W.Frag) (mg : Str → Option Value) (base : Heap) (CX : CXT) (k : Nat) (C f : Addr) (fd : FuncData) (ps : List Str) (sp : Sp) : Prop extends CalB P w K mg base CX k f fd ps sp where
  le : LenC K C f
end El

set_option Elab.async false
set_option linter.all false
set_option maxRecDepth 100000
set_option maxHeartbeats 4000000
/-! Own words: static methods and callable objects inside a try; exception classes that inherit their __init__. -/
namespace El
open PySem PySem.Spec PyProof.Rows L2
section
variable {X : Cx} {CX : CXT} {k : Nat} {C p g f : Addr} {mc : Value} {fd : FuncData} {ps : List Str} {sp : Sp} {E : L2.St → XK} {o e fe : Expr} {es : List Expr} {m : Str} {pos apos : Pos} {ta tf : TE} {t : TA} {pl : Sem Bool}
theorem code_fnS {pins : List (Addr × Obj)} {σ : L2.St} {H : Hp} {s : Shared} {Q : VK} {us : List Value} {vs : List V} (F : FnOk X.prog X.w X.K X.mg X.base CX k f fd ps sp) (hr : Room k X.A) (hb : Binds X.K fd ps []) (hx : PassesAt CX X σ (E σ))
    (I : Inv X pins σ H s) (r : Vals vs us) (h : sp vs H Q (E σ)) : codeAny (model X.prog X.w) X.A (.call (.ref f) ⟨us, []⟩) (fun r s' => match r with | .ok (.ret u) => EP X pins σ Q u s' | .error e => X.xe e s' | _ => False) s := by
  have hl : us.length = ps.length := by rw [← r.length]; exact F.len _ _ _ _ h
  have b := hb s us I.kIn (by rw [List.append_nil]; exact hl)
  rw [List.append_nil] at b
  refine codeAny_mono (F.run X.A X.stack s H ⟨us, []⟩ us vs Q (E σ) hr I.env0 b r h) fun r s' hq => ?_
  cases r with
  | error e => exact hx pins H s e s' I hq
  | ok fl =>
    cases fl with
    | ret u => exact I.after hq
    | next => exact False.elim hq
    | brk => exact False.elim hq
    | cont => exact False.elim hq
/-- C.m(e, ..), what it lets out being taken where it stands -/
def tSMS (C : Addr) (sp : Sp) (E : L2.St → XK) (ta : TE) (t : TA) : TE := fun σ H Q => ta σ H fun x H1 => x = .ref C ∧ t σ H1 fun vs H2 => sp vs H2 Q (E σ)
theorem pe_smethS (he : PE X o ta) (r : ClX.CRead X.K C mc) (c : SMet X.K C mc m p g) (F : FnOk X.prog X.w X.K X.mg X.base CX k g fd ps sp) (hr : Room k X.A) (hb : Binds X.K fd ps []) (hx : ∀ σ, PassesAt CX X σ (E σ)) (ha : PA X (e :: es) t)
    (hst : starEach (e :: es) X.env = (false, eval e X.env) :: starEach es X.env := by rfl) (hpl : (backTo pos (starEach es X.env)).any (·.1) = false := by rfl)
    (ht : eval (.Call (.Attribute o m apos) (e :: es) [] pos) X.env = (do
      let ov ← eval o X.env
      standAt apos.atName
      let (f, first) ← holding [ov] (getMethod ov m pl)
      callWith pos f first (backTo pos (starEach (e :: es) X.env)) (backToKw pos (keywordEach [] X.env))) := by rfl) :
    PE X (.Call (.Attribute o m apos) (e :: es) [] pos) (tSMS C sp E ta t) := by
  refine ⟨fun pins s σ H Q I h => ?_⟩
  refine PySem.W.methodCall_KW (pl := pl) (thn (he.run pins s σ H _ I h) fun u s1 ⟨x, H1, I1, rx, ex, q⟩ => ?_) ht
  subst ex
  obtain rfl : u = Value.ref C := rx
  refine getsm_ok I1 r c fun s2 I2 => ?_
  refine PySem.W.callWith_K (h₀ := X.base) I2.ok.mod.kin c.kp (thn (ha.run pos pins s2 σ H1 _ I2 q) fun us s3 ⟨vs, H2, I3, rv, q2⟩ => ⟨I3.kIn, ?_⟩) hst hpl
  exact run_fnS F hr hb (hx σ) I3 rv q2
/-- f(e, ..), f an instance of C, what it lets out being taken where it stands -/
def tCallOS (C : Addr) (sp : Sp) (E : L2.St → XK) (tf : TE) (t : TA) : TE := fun σ H Q => tf σ H fun y H1 => ∃ a, y = V.ref a ∧ t σ H1 fun vs H2 => (∃ dx fs, H2 a = some (.ins C dx fs)) ∧ sp (V.ref a :: vs) H2 Q (E σ)
theorem pe_callOS (hf : PE X fe tf) (c : StX.CallO X.K C g) (F : FnOk X.prog X.w X.K X.mg X.base CX k g fd ps sp) (hb : Binds X.K fd ps []) (hr : Room k X.A) (hx : ∀ σ, PassesAt CX X σ (E σ)) (ha : PA X (e :: es) t)
    (ht : eval (.Call fe (e :: es) [] pos) X.env = (do callWith pos (← eval fe X.env) [] (backTo pos (starEach (e :: es) X.env)) (backToKw pos (keywordEach [] X.env))) := by rfl)
    (he : starEach (e :: es) X.env = (false, eval e X.env) :: starEach es X.env := by rfl) (hpl : (backTo pos (starEach es X.env)).any (·.1) = false := by rfl) : PE X (.Call fe (e :: es) [] pos) (tCallOS C sp E tf t) := by
  refine ⟨fun pins s σ H Q I h => ?_⟩
  refine Call_ (thn (hf.run pins s σ H _ I h) fun u s1 ⟨y, H1, I1, ry, a, ey, q⟩ => ?_) ht
  subst ey
  obtain rfl : u = Value.ref a := ry
  refine StX.callO_with (thn (ha.run pos pins s1 σ H1 _ I1 q) fun us s2 ⟨vs, H2, I2, r, hi, q2⟩ => ?_) he hpl
  obtain ⟨ox, od, J, hd⟩ := StX.insC_at I2 (.inr hi)
  refine ⟨⟨C, ox, od, J, hd⟩, ?_⟩
  refine wpAny_call (PySem.W.kco_code I2.kIn J hd c.at_ c.fn c.fi (codeAny_mono (code_fnS (us := .ref a :: us) (vs := .ref a :: vs) F hr hb (hx σ) I2 (.cons rfl r) q2) fun r s' h => ?_))
  cases r with
  | error e => exact h
  | ok fl =>
    cases fl with
    | ret u => exact h
    | next => exact False.elim h
    | brk => exact False.elim h
    | cont => exact False.elim h
end

/-! ### an exception class C whose __init__ is that of D above it -/
open NdefX
structure ExI (K : PySem.W.Frag) (C D fI : Addr) (fields : List Str) : Prop where
  oex : OexC K C
  sup : PySem.W.ks_superIn K C D "__init__" = some (some (.builtin "ValueError.__init__"))
  subV : PySem.W.subIn K (.ref C) (.type "ValueError") = some true
  mro : PySem.W.mroIn K C (.ref D) = some true
  iC : PySem.W.findIn K (.ref C) "__init__" = some (some (.ref fI))
  tI : PySem.W.typeIn K (.ref fI) = some (.type "function")
  no : ∀ f ∈ fields, PySem.W.findIn K (.ref C) f = some none
  xf : XfC K C
  is : ExcC K C
theorem exi_mk {K : PySem.W.Frag} {C D fI N : Addr} {fields : List Str} {nm q : Str} {bs bm : List Value} {sn : List Str} {sub : List Value} {ab : Bool} {col : Option Bool} {dd : Option Addr} {k0 k1 k2 k3 k5 : Option Value}
    (cls : K.lookup C = some (excClassObj nm q C N bs bm true sn sub ab col dd k0 k1 k2 k3 k5 "ValueError.__new__")) (ref : PySem.HandSPX.refsVE bm = true)
    (sa : PySem.W.findIn K (.ref C) "__setattr__" = some (some (.builtin "object.__setattr__"))) (exC : PySem.W.subIn K (.ref C) (.type "BaseException") = some true) (tyC : PySem.W.typeIn K (.ref C) = some (.type "type")) (kC : PySem.W.keepIn K (.ref C) = true)
    (sup : PySem.W.ks_superIn K C D "__init__" = some (some (.builtin "ValueError.__init__"))) (subV : PySem.W.subIn K (.ref C) (.type "ValueError") = some true) (mro : PySem.W.mroIn K C (.ref D) = some true)
    (iC : PySem.W.findIn K (.ref C) "__init__" = some (some (.ref fI))) (tI : PySem.W.typeIn K (.ref fI) = some (.type "function")) (no : ∀ f ∈ fields, PySem.W.findIn K (.ref C) f = some none)
    (ga : PySem.W.findIn K (.ref C) "__getattribute__" = some (some (.builtin "BaseException.__getattribute__"))) (gg : PySem.W.findIn K (.ref C) "__getattr__" = some none) (hd : PySem.W.hasDictIn K C = true)
    (hcl : PySem.W.findIn K (.ref C) "__class__" = some (some (.builtin "object.__class__"))) (hn : PySem.W.specialIn K (.builtin "object.__class__") "__get__" = some (some (.builtin "getset_descriptor.__get__"))) (ht : PySem.W.takesIn K (.builtin "object.__class__") = some true) (hm : PySem.W.mroIn K C (.type "object") = some true) : ExI K C D fI fields :=
  ⟨⟨⟨nm, q, N, bs, bm, sn, sub, ab, col, dd, k0, k1, k2, k3, k5, cls, ref⟩, sa, exC, tyC, kC⟩, sup, subV, mro, iC, tI, no, ⟨ga, gg, exC, hd⟩, ⟨ga, gg, exC, hd, hcl, hn, ht, hm⟩⟩
structure CalEI (P : Program) (w : World) (K : PySem.W.Frag) (mg : Str → Option Value) (base : Heap) (k : Nat) (x : Str) (C f : Addr) (fd : FuncData) (ps : List Str) (ok : List V → Prop) (fs : List V → List (Str × V)) (fields : List Str) : Prop where
  G : FnOk P w K mg base CX0 k f fd ps (spE C ok fs)
  b : Binds K fd ps []
  X : ∃ D, ExI K C D f fields
  m : mg x = some (.ref C)
theorem CalEI.oex {P : Program} {w : World} {K : PySem.W.Frag} {mg : Str → Option Value} {base : Heap} {k : Nat} {x : Str} {C f : Addr} {fd : FuncData} {ps : List Str} {ok : List V → Prop} {fs : List V → List (Str × V)} {fields : List Str} (c : CalEI P w K mg base k x C f fd ps ok fs fields) : OexC K C := by obtain ⟨D, X⟩ := c.X; exact X.oex
theorem CalEI.iC {P : Program} {w : World} {K : PySem.W.Frag} {mg : Str → Option Value} {base : Heap} {k : Nat} {x : Str} {C f : Addr} {fd : FuncData} {ps : List Str} {ok : List V → Prop} {fs : List V → List (Str × V)} {fields : List Str} (c : CalEI P w K mg base k x C f fd ps ok fs fields) : PySem.W.findIn K (.ref C) "__init__" = some (some (.ref f)) := by obtain ⟨D, X⟩ := c.X; exact X.iC
theorem CalEI.tI {P : Program} {w : World} {K : PySem.W.Frag} {mg : Str → Option Value} {base : Heap} {k : Nat} {x : Str} {C f : Addr} {fd : FuncData} {ps : List Str} {ok : List V → Prop} {fs : List V → List (Str × V)} {fields : List Str} (c : CalEI P w K mg base k x C f fd ps ok fs fields) : PySem.W.typeIn K (.ref f) = some (.type "function") := by obtain ⟨D, X⟩ := c.X; exact X.tI
/-! ### characters whose repr is bounded -/
def Asc (z : Str) : Prop := ∀ c ∈ z.cps.toList, c < 16 ^ 8
theorem repr_le {z : Str} (h : Asc z) (hl : z.length ≤ 1000) : (reprText z).length ≤ 10002 := Nat.le_trans (PySem.StrLaws.reprText_len z h) (by omega)
end El

set_option Elab.async false
set_option linter.all false
set_option maxRecDepth 100000
set_option maxHeartbeats 4000000
/-! Own words: methods of own classes, classes whose __init__ has defaults, tuple targets in comprehensions. -/
namespace El
open PySem PySem.Spec PyProof.Rows L2
structure CalM (P : Program) (w : World) (K : PySem.W.Frag) (mg : Str → Option Value) (base : Heap) (CX : CXT) (k : Nat) (C : Addr) (m : Str) (f : Addr) (fd : FuncData) (ps : List Str) (sp : Sp) : Prop extends CalB P w K mg base CX k f fd ps sp where
  cl : Cls K C
  me : Meth K C m f
/-- a class whose __init__ has defaults dvs that fill up -/
structure CalID (P : Program) (w : World) (K : PySem.W.Frag) (mg : Str → Option Value) (base : Heap) (CX : CXT) (k : Nat) (x : Str) (C f : Addr) (fd : FuncData) (ps : List Str) (dvs : List V) (sp : Sp) : Prop where
  G : FnOk P w K mg base CX k f fd ps sp
  b : ∃ ds, Vals dvs ds ∧ Binds K fd ps ds
  mkc : Mk K C f
  m : mg x = some (.ref C)
section
variable {X : Cx} {CX : CXT} {k : Nat} {C f : Addr} {fd : FuncData} {ps : List Str} {dvs : List V} {sp : Sp} {E : XK} {x : Str} {p pos : Pos} {e : Expr} {es : List Expr} {t : TA}
theorem pe_makeD (c : CalID X.prog X.w X.K X.mg X.base CX k x C f fd ps dvs sp) (hr : Room (k + 1) X.A) (hg : Gl X x) (hx : Passes CX X E) (ha : PA X (e :: es) t) (hdb : (x == ("__debug__" : Str)) = false := by decide)
    (he : starEach (e :: es) X.env = (false, eval e X.env) :: starEach es X.env := by rfl) (hpl : (backTo pos (starEach es X.env)).any (·.1) = false := by rfl) :
    PE X (.Call (.Name x p) (e :: es) [] pos) (tMake C sp dvs E t) := by
  obtain ⟨ds, hd, hb⟩ := c.b
  exact pe_make c.mkc c.G hr hg c.m hb hd hx ha hdb he hpl
end
section
variable {X : Cx}
theorem pg_tupK (K : PySem.W.Frag) {es : List Expr} {k : Nat} {t : TGs} {n : Nat} {pos : Pos} (hc : X.calm = true) (h : PGs X es t)
    (hn : (assignEach es X.env).length = n := by rfl) (hst : (assignEach es X.env).findIdx? (·.1) = none := by rfl) (hK : X.K = K := by rfl) : PG X (.Tuple es k pos) (gTup K n t) := hK ▸ pg_tup hc h hn hst
end
/-- a def of the text whose last parameter has a default -/
theorem fund_mk {K : PySem.W.Frag} {x qual : Str} {st : Stmt} {f T : Addr} {oc : Value} {od dd an : Option Addr} {osl dsl : Array (Option Value)} {kV doc pm cdv ct : Value} {its : Array Value} {n : Nat} {dvs : List V}
    (l : K.lookup f = some ⟨oc, od, .func (PySem.W.fnOf x qual (defArgs st) (defBody st) (defScope st) (.ref T) kV doc pm an cdv ct), osl⟩) (c : PySem.W.codeIn K cdv qual = true) (k : PySem.W.keepIn K (.ref f) = true)
    (lT : K.lookup T = some ⟨.type "tuple", dd, .seq its n, dsl⟩) (hv : Vals dvs its.toList) (hne : dvs ≠ []) : FunD K x qual (defArgs st) (defBody st) (defScope st) dvs [] f (PySem.W.fnOf x qual (defArgs st) (defBody st) (defScope st) (.ref T) kV doc pm an cdv ct) :=
  ⟨⟨oc, od, .ref T, kV, doc, pm, an, cdv, ct, osl, rfl, l, c, .inr ⟨hne, T, _, its.toList, n, rfl, lT, by simp, hv⟩, .inl rfl⟩, k⟩
end El

set_option Elab.async false
set_option linter.all false
set_option maxRecDepth 100000
set_option maxHeartbeats 4000000
/-! Own words: `in`, `not in` and `[..]` of own classes. -/
namespace El
open PySem PySem.Spec PyProof.Rows L2
/-- an own class's `__contains__` -/
structure InC (K : PySem.W.Frag) (C f : Addr) : Prop where
  at_ : PySem.W.findIn K (.ref C) "__contains__" = some (some (.ref f))
  fn : PySem.W.isFn K (.ref f) = true
/-- an own class's `__getitem__` -/
structure ItC (K : PySem.W.Frag) (C f : Addr) : Prop where
  at_ : PySem.W.findIn K (.ref C) "__getitem__" = some (some (.ref f))
  fn : PySem.W.isFn K (.ref f) = true
  ns : PySem.W.noSeq K C = true
section
variable {X : Cx} {CX : CXT} {k : Nat} {C f : Addr} {fd : FuncData} {ps : List Str} {sp : Sp} {E : XK}
/-- x in a, a of the class at C; n: not in -/
def rInO (n : Bool) (C : Addr) (sp : Sp) (E : XK) : R2 := fun x y H Q => ∃ a dx fs, y = .ref a ∧ H a = some (.ins C dx fs) ∧ sp [.ref a, x] H (fun v H' => ∃ b : Bool, v = .bl b ∧ Q (.bl (n ^^ b)) H') E
theorem op_inO (c : InC X.K C f) (F : FnOk X.prog X.w X.K X.mg X.base CX k f fd ps sp) (hr : Room k X.A) (hb : Binds X.K fd ps []) (hx : Passes CX X E) : OpR X (compareOp .In) (rInO false C sp E) := by
  intro pins s σ H x y v u Q I rx ry h
  obtain ⟨a, dx, fs, rfl, ea, q⟩ := h
  obtain rfl : u = Value.ref a := ry
  obtain ⟨m, fr⟩ := I.fr
  obtain ⟨mA, O, _⟩ := ins_get I.hok ea
  obtain ⟨od, J, _⟩ := O.look
  refine PySem.W.in_K fr I.ok.mod.kin J c.at_ c.fn ?_
  refine wpAny_mono (run_fn (us := [.ref a, v]) (vs := [.ref a, x]) (ds := []) (dvs := []) F hr hb .nil hx I (.cons rfl (.cons rx .nil)) q) (fun u' s' h' => ?_) fun _ _ z => z
  obtain ⟨w, H', I', rw', b, rfl, q'⟩ := h'
  cases (show u' = Value.bool b from rw')
  refine wpAny_pure ⟨.bl b, H', I', rfl, ?_⟩
  cases b <;> exact q'
theorem op_notInO (c : InC X.K C f) (F : FnOk X.prog X.w X.K X.mg X.base CX k f fd ps sp) (hr : Room k X.A) (hb : Binds X.K fd ps []) (hx : Passes CX X E) : OpR X (compareOp .NotIn) (rInO true C sp E) := by
  intro pins s σ H x y v u Q I rx ry h
  obtain ⟨a, dx, fs, rfl, ea, q⟩ := h
  obtain rfl : u = Value.ref a := ry
  obtain ⟨m, fr⟩ := I.fr
  obtain ⟨mA, O, _⟩ := ins_get I.hok ea
  obtain ⟨od, J, _⟩ := O.look
  refine PySem.W.notIn_K fr I.ok.mod.kin J c.at_ c.fn ?_
  refine wpAny_mono (run_fn (us := [.ref a, v]) (vs := [.ref a, x]) (ds := []) (dvs := []) F hr hb .nil hx I (.cons rfl (.cons rx .nil)) q) (fun u' s' h' => ?_) fun _ _ z => z
  obtain ⟨w, H', I', rw', b, rfl, q'⟩ := h'
  cases (show u' = Value.bool b from rw')
  refine wpAny_pure ⟨.bl (!b), H', I', rfl, ?_⟩
  cases b <;> exact q'
/-- a[y], a of the class at C -/
def rItO (C : Addr) (sp : Sp) (E : XK) : R2 := fun x y H Q => ∃ a dx fs, x = .ref a ∧ H a = some (.ins C dx fs) ∧ sp [.ref a, y] H Q E
theorem op_itO (c : ItC X.K C f) (F : FnOk X.prog X.w X.K X.mg X.base CX k f fd ps sp) (hr : Room k X.A) (hb : Binds X.K fd ps []) (hx : Passes CX X E) : OpR X getItem (rItO C sp E) := by
  intro pins s σ H x y v u Q I rx ry h
  obtain ⟨a, dx, fs, rfl, ea, q⟩ := h
  obtain rfl : v = Value.ref a := rx
  obtain ⟨m, fr⟩ := I.fr
  obtain ⟨mA, O, _⟩ := ins_get I.hok ea
  obtain ⟨od, J, _⟩ := O.look
  refine PySem.W.getItem_K fr I.ok.mod.kin J c.ns c.at_ c.fn ?_
  exact run_fn (us := [.ref a, u]) (vs := [.ref a, y]) (ds := []) (dvs := []) F hr hb .nil hx I (.cons rfl (.cons ry .nil)) q
end
end El

set_option Elab.async false
set_option linter.all false
set_option maxRecDepth 100000
set_option maxHeartbeats 4000000
/-! Own words: iterating an own class whose `__iter__` returns iter(..) of a tuple. -/
namespace El
open PySem PySem.Spec PyProof.Rows L2
/-- a promise that may speak of how many objects there were at the call -/
def FnS (P : Program) (w : World) (K : PySem.W.Frag) (mg : Str → Option Value) (base : Heap) (CX : CXT) (k : Nat) (f : Addr) (sp : Nat → Sp) : Prop :=
  ∀ (A : Around) (outer : List Env) (s : Shared) (H : Hp) (us : List Value) (vs : List V) (Q : VK) (E : XK), Room k A → Env0 P w K mg base A outer s H → Vals vs us → sp s.heap.objs.size vs H Q E →
    codeAny (model P w) A (.call (.ref f) ⟨us, []⟩) (CR CX outer P w H s Q E) s
section
variable {P : Program} {w : World} {K : PySem.W.Frag} {mg : Str → Option Value} {base : Heap} {j k : Nat} {f : Addr} {sp : Nat → Sp}
theorem FnS.mono {CX : CXT} (F : FnS P w K mg base CX j f sp) (h : j ≤ k) : FnS P w K mg base CX k f sp := fun A outer s H us vs Q E hr => F A outer s H us vs Q E (hr.mono h)
theorem fun_okS {x qual : Str} {st : Stmt} {fd : FuncData} {N ps : List Str} (F : Fun K x qual st f fd) (S : FnScope N ps (defScope st)) (hb : Binds K fd ps []) (len : ∀ n vs H Q E, sp n vs H Q E → vs.length = ps.length)
    (hbody : ∀ (cdv : Value) (A : Around) (outer : List Env) (s : Shared) (H : Hp) (vs : List V) (Q : VK) (E : XK), Room k (A.deeper (envOfC qual (defScope st) s.heap.objs.size f cdv)) → sp s.heap.objs.size vs H Q E →
      ∃ t, PSs (cxOf CX0 P w K mg base N qual (defScope st) f cdv A outer s H E).nox (defBody st) t ∧ t { nx := fun _ H' => Q .non H', rt := Q } (start N vs) H) : FnS P w K mg base CX0 (k + 1) f sp := by
  obtain ⟨oc, od, kV, doc, pm, an, cdv, ct, osl, rfl, lk, hcd⟩ := F.ex
  intro A outer s H us vs Q E hr e0 r hsp
  have hl := len _ _ _ _ _ hsp
  have KX : K.In s.heap := e0.mod.kin.keeps fun b o e => (e0.bs b o e).1
  have bt := hb s us KX (by rw [List.append_nil, ← r.length]; exact hl)
  rw [List.append_nil] at bt
  have nl : s.heap.NoLimit := e0.mod.nolimit.keeps fun b o e => (e0.bs b o e).1
  refine codeAny_call_function hr.depth (KX _ _ lk) rfl S.co S.gen rfl (PySem.W.codeRec_of KX hcd) (bt _ _ _ _ ?_)
  refine wpAny_newFunctionEnv_cells S.kind (fun y hy => (S.par y.1 (List.of_mem_zip hy).1).imp id fun q => ⟨q, PySem.W.cellsFrom_some _ _ _ (.inl q)⟩) fun env he s1 x => ⟨nl.keeps x.toInCall.keep, codeAny_func ?_⟩
  subst he
  obtain ⟨t, ht, hq⟩ := hbody cdv A outer s H vs Q E (hr.deeper _) hsp
  have I := inv_start (CX := CX0) (w := w) (E := E) S hr.hd e0 hl r x
  refine wpAny_mono (ht.nox.run [] s1 (start N vs) H _ I hq) (fun fl s' hs => ?_) fun _ _ hs => hs
  match fl, hs with
  | .ret u, ⟨v, σ', H', J, rv, q⟩ => exact ⟨v, H', J.os, J.bare, J.base, J.hok, rv, q⟩
  | .next, ⟨σ', H', J, q⟩ => exact ⟨V.non, H', J.os, J.bare, J.base, J.hok, rfl, q⟩
  | .brk, ⟨_, _, _, q⟩ => exact False.elim q
  | .cont, ⟨_, _, _, q⟩ => exact False.elim q
end

/-! ### iter(..) of a tuple -/
def tiObj (t : Addr) : Obj := { cls := .type "tuple_iterator", data := .fields #[.ref t, .int 0 0] }
/-- at it the iterator of the tuple at t, at its beginning -/
def TitO (t it : Addr) : HO := .ext fun h => h.get? it = some (tiObj t)
theorem titO_ok {P : Program} {w : World} {H : Hp} {h : Heap} {t it : Addr} (e : h.get? it = some (tiObj t)) : ObjOk P w H h it (TitO t it) := ⟨e, ⟨_, e⟩, fun _ _ q k => k _ q⟩
theorem titO_get {X : Cx} {pins : List (Addr × Obj)} {σ : L2.St} {H : Hp} {s : Shared} {t it : Addr} (I : Inv X pins σ H s) (e : H it = some (TitO t it)) : s.heap.get? it = some (tiObj t) := (I.hok it _ e).1
def rIterT (K : PySem.W.Frag) (n : Nat) : List V → Hp → VK → Prop := fun xs H Q => ∃ (t : Addr) (zs : List V), xs = [.ref t] ∧ SqT K H t zs ∧ ∀ it, H it = none → n ≤ it → Q (.ref it) (upd H it (TitO t it))
theorem run_iterT {prog : Program} {w : World} {A : Around} {E : Value → Shared → Prop} {s : Shared} {t : Addr} {items : Array Value} {Q : Value → Shared → Prop} (ht : s.heap.IsTuple t items) (h : Q (.ref s.heap.objs.size) { s with heap := s.heap.push (tiObj t) }) : wpAny (model prog w) A (call (.builtin "iter") [.ref t]) Q E s := by
  refine Calls.call_function_entry (by decide +kernel) (by decide +kernel) PySem.W.kdk_entry_iter (PySem.W.kdk_args_iter _) ?_
  unfold Builtin.«iter»
  refine wpAny_bind (m := someArgs "iter" 1 2 _) (wpAny_of_eq (a := [Value.ref t]) (by first | rfl | kernel_rfl!) ?_)
  exact wpAny_bind (wpAny_pyIter_tuple ht (wpAny_pure ⟨_, rfl, h⟩))
theorem call_iterT {X : Cx} : CallR X (.builtin "iter") (rIterT X.K X.s_0.heap.objs.size) := by
  intro pins s σ H xs us Q I r h
  obtain ⟨t, zs, rfl, hq, q⟩ := h
  obtain rfl := Vals.ref1 r
  obtain ⟨its, rv, p, hz⟩ := I.tuple hq
  refine run_iterT (show s.heap.IsTuple t its.toArray from p) ?_
  exact ⟨.ref s.heap.objs.size, _, I.laid (t' := s.toks) (fun b u e => Heap.get?_push_of_some _ e) (Nat.le_refl _) (titO_ok (Heap.get?_push_size _ rfl)), rfl, q _ (I.hok.fresh (Nat.le_refl _)) I.sz⟩
theorem iterTK {X : Cx} (K : PySem.W.Frag) (n : Nat) (h : X.K = K := by rfl) (hn : X.s_0.heap.objs.size = n := by rfl) : CallR X (.builtin "iter") (rIterT K n) := h ▸ hn ▸ call_iterT

/-! ### for x in a, a of the class at C -/
structure OitC (K : PySem.W.Frag) (C f : Addr) : Prop where
  at_ : PySem.W.findIn K (.ref C) "__iter__" = some (some (.ref f))
  fn : PySem.W.isFn K (.ref f) = true
/-- behind the call the iterator is forgotten -/
def iOwnT (K : PySem.W.Frag) (C : Addr) (sp : Nat → Sp) (n : Nat) (E : XK) (te : TE) : TI := fun σ H R => te σ H fun x H1 => ∃ a dx fs, x = .ref a ∧ H1 a = some (.ins C dx fs) ∧ ∀ m, n ≤ m → sp m [.ref a] H1 (fun v H2 => ∃ t it, v = .ref it ∧ H2 it = some (TitO t it) ∧ n ≤ it ∧ R (Itt K t) (ItX.dropH H2 it)) E
theorem pi_ownT {X : Cx} {CX : CXT} {k : Nat} {C f : Addr} {sp : Nat → Sp} {E : XK} {tg e : Expr} {te : TE} (c : OitC X.K C f) (F : FnS X.prog X.w X.K X.mg X.base CX k f sp) (hr : Room k X.A) (hx : Passes CX X E) (he : PE X e te) : PI X tg e (iOwnT X.K C sp X.s_0.heap.objs.size E te) := by
  refine ⟨fun pins s σ H R I h => ?_⟩
  refine thn (he.run pins s σ H _ I h) fun v s1 ⟨x, H1, I1, r1, a, dx, fs, ex, ea, q⟩ => ?_
  subst ex
  obtain rfl : v = Value.ref a := r1
  obtain ⟨m, fr⟩ := I1.fr
  obtain ⟨mA, O, _⟩ := ins_get I1.hok ea
  obtain ⟨od, J, _⟩ := O.look
  refine PySem.W.owit_iter fr I1.ok.mod.kin J c.at_ c.fn ?_
  refine wpAny_call (codeAny_mono (F X.A X.stack s1 H1 [.ref a] [.ref a] _ E hr I1.env0 (.cons rfl .nil) (q _ I1.sz)) fun r s' hq => ?_)
  match r, hq with
  | .error e, hq => exact hx pins σ H1 s1 e s' I1 hq
  | .ok (.ret u), hq =>
    obtain ⟨w', H2, I2, rw', t, it, rfl, hi, hn, hR⟩ := I1.after hq
    obtain rfl : u = Value.ref it := rw'
    have eo := titO_get I2 hi
    have hi' := hi
    unfold TitO at hi'
    have LT : PySem.W.Looks (model X.prog X.w) s'.heap (typeOf (.ref it)) (.type "tuple_iterator") := (PySem.W.Looks.ld (part := none) eo).andThen .now
    have LN : PySem.W.Looks (model X.prog X.w) s'.heap (specialOf (.ref it) (Str.ofString "__next__")) (some (.builtin "tuple_iterator.__next__")) := LT.andThen (PySem.W.Looks.of_pure slot_tupleiter_next.lookup)
    refine LN.here ?_
    refine ⟨it, [it], _, _, ItX.dropH H2 it, rfl, ItX.inv_drop I2 hi', turn_tuple t it, ⟨_, eo, rfl, rfl⟩, fun b hb => ?_, hR⟩
    have e : b = it := by simpa using hb
    rw [e]
    exact ItX.inv_fp I2 hi hn
  | .ok .next, hq => exact False.elim hq
  | .ok .brk, hq => exact False.elim hq
  | .ok .cont, hq => exact False.elim hq
end El

set_option Elab.async false
set_option linter.all false
set_option maxRecDepth 100000
set_option maxHeartbeats 4000000
/-! Own words: len(set(t)) of a tuple of any number of texts. -/
namespace El
open PySem PySem.Spec PyProof.Rows L2
/-- among the first i texts -/
def Has (xs : List Str) (i : Nat) : Str → Bool := fun y => (xs.take i).any (· == y)
/-- c different ones among the first i, as far as it is asked -/
def Cnt (xs : List Str) (i c : Nat) : Prop := c ≤ i ∧ (c = i ↔ (xs.take i).Nodup)
theorem has_iff {xs : List Str} {i : Nat} {y : Str} : Has xs i y = true ↔ y ∈ xs.take i := by
  unfold Has
  rw [List.any_eq_true]
  constructor
  · rintro ⟨z, hz, e⟩
    rw [beq_iff_eq] at e
    exact e ▸ hz
  · intro h
    exact ⟨y, h, beq_iff_eq.mpr rfl⟩
theorem take_more {xs : List Str} {i : Nat} {x : Str} (e : xs[i]? = some x) : xs.take (i + 1) = xs.take i ++ [x] := by rw [List.take_add_one, e]; rfl
theorem Cnt.nil (xs : List Str) : Cnt xs 0 0 := ⟨Nat.le_refl _, by simp⟩
theorem Cnt.more {xs : List Str} {i c : Nat} {x : Str} (h : Cnt xs i c) (e : xs[i]? = some x) : Cnt xs (i + 1) (if Has xs i x = true then c else c + 1) := by
  obtain ⟨h1, h2⟩ := h
  have hn : (xs.take (i + 1)).Nodup ↔ (xs.take i).Nodup ∧ x ∉ xs.take i := by
    rw [take_more e, List.nodup_append]
    constructor
    · rintro ⟨a, -, b⟩
      exact ⟨a, fun hx => b x hx x (List.mem_singleton.mpr rfl) rfl⟩
    · rintro ⟨a, b⟩
      refine ⟨a, by simp, fun y hy z hz => ?_⟩
      rw [List.mem_singleton] at hz
      intro q
      exact b (hz ▸ q ▸ hy)
  unfold Cnt
  rw [hn]
  by_cases q : Has xs i x = true
  · rw [if_pos q]
    refine ⟨by omega, ⟨fun z => absurd z (by omega), fun z => absurd (has_iff.mp q) z.2⟩⟩
  · rw [if_neg q]
    refine ⟨by omega, ⟨fun z => ⟨h2.mp (by omega), fun y => q (has_iff.mpr y)⟩, fun z => by rw [h2.mpr z.1]⟩⟩
section
variable {prog : Program} {w : World} {A : Around} {R : Result → Shared → Prop} {it : Addr} {fp wr : List Addr} {G : Array GenState → Array GenState → Prop} {n : Nat} {Pv : Nat → Value → Prop} {St : Nat → Shared → Prop}
theorem loopTx (W : WalksS prog w A.in1 it fp wr G n Pv St) (b : Addr) (hb : b ∉ fp) (xs : List Str) (hn : xs.length = n) (hs : n + 1 < scanBound) (hv : ∀ i v, Pv i v → ∃ t, v = .str (xs.getD i Str.empty) t) :
    ∀ (k i : Nat) (s : Shared), n - i = k → i ≤ n → St i s → (∃ c, Cnt xs i c ∧ s.heap.SetOf (PySem.strKind prog w) b (Has xs i) c) →
      (∀ s' c, Moved (b :: wr) G s s' → Cnt xs n c → s'.heap.SetOf (PySem.strKind prog w) b (Has xs n) c → R (.ok (.ret .none)) s') →
      codeAny (model prog w) A (.builtin "set.update.loop" ⟨[.ref b, .ref it], []⟩) R s := by
  have hbw : b ∉ wr := fun h => hb (W.sub _ h)
  have wsub : ∀ q ∈ wr, q ∈ b :: wr := fun q hq => List.mem_cons_of_mem _ hq
  intro k
  induction k with
  | zero =>
    rintro i s hk hi st ⟨c, hc, ho⟩ done
    obtain rfl : i = n := by omega
    refine codeAny_builtin PyProof.Rows.F.entry_set_update_loop ?_
    rw [Around.under_plainId PyProof.Rows.F.plain_set_update_loop _]
    refine wpAny_bind (m := pyNext (.ref it)) (W.done s _ _ st fun s1 mv => ?_)
    refine wpAny_pure (done s1 c (mv.mono wsub) hc ?_)
    obtain ⟨o, es, ep, tb, e, more⟩ := ho
    exact ⟨o, es, ep, tb, mv.heap b _ hbw e, more⟩
  | succ k ih =>
    rintro i s hk hi st ⟨c, hc, ho⟩ done
    have lt : i < n := by omega
    refine codeAny_builtin PyProof.Rows.F.entry_set_update_loop ?_
    rw [Around.under_plainId PyProof.Rows.F.plain_set_update_loop _]
    refine wpAny_bind (m := pyNext (.ref it)) (W.item i s _ _ lt st fun v s1 pv st1 mv => ?_)
    obtain ⟨t, rfl⟩ := hv i v pv
    have ei : xs[i]? = some (xs.getD i Str.empty) := by
      rw [List.getD_eq_getElem?_getD, List.getElem?_eq_getElem (by omega)]; rfl
    have ho1 : s1.heap.SetOf (PySem.strKind prog w) b (Has xs i) c := by
      obtain ⟨o, es, ep, tb, e, more⟩ := ho
      exact ⟨o, es, ep, tb, mv.heap b _ hbw e, more⟩
    refine wpAny_bind (m := holding [Value.str (xs.getD i Str.empty) t] (setAdd b (.str (xs.getD i Str.empty) t))) (wpAny_holding ?_)
    unfold setAdd
    refine wpAny_holding (wpAny_bind ((PySem.strKind prog w).pyHash (strKind_is _ _ _ _) ?_))
    have hlt : c + 1 < scanBound := by have := hc.1; omega
    refine wpAny_setAddHashed_of (knd := PySem.strKind prog w) (s := { s1 with toks := s1.toks + 1 }) (strKind_is _ _ _ _) rfl ho1 hlt fun h' same ho2 => ?_
    have ho3 : h'.SetOf (PySem.strKind prog w) b (Has xs (i + 1)) (if Has xs i (xs.getD i Str.empty) = true then c else c + 1) := by
      refine SetOf_congr ho2 (fun y => ?_) rfl
      rw [Bool.eq_iff_iff, has_iff, take_more ei, List.mem_append, List.mem_singleton, Bool.or_eq_true, has_iff, decide_eq_true_iff]
    refine wpAny_pure ⟨plainId_quiet PyProof.Rows.F.plain_set_update_loop _, ih (i + 1) _ (by omega) lt (W.frame _ s1 _ _ st1 (Nat.le_succ _) fun q hq o e => ?_) ⟨_, hc.more ei, ho3⟩ fun s2 c2 mv2 hc2 hS2 => ?_⟩
    · exact (same.2 q fun z => hb (z ▸ hq)).trans e
    · refine done s2 c2 (Moved.trans W.gtrans ((mv.mono wsub).then_heap (Nat.le_succ _) fun q o hq e => ?_) mv2) hc2 hS2
      exact (same.2 q fun z => hq (z ▸ List.mem_cons_self)).trans e
end
/-- a new set's object -/
def setObj (led : Bool) : Obj := { cls := .type "set", dict := none, data := .set #[] 0 (.fresh 0 0 led) }
section
variable {prog : Program} {w : World} {A : Around} {E : Value → Shared → Prop} {s : Shared}
/-- what set.__init__ does to a new set with a tuple of texts -/
theorem init_tx {l : Addr} {items : Array Value} {xs : List Str} {led : Bool} (hh : A.handled = none) (hl : s.heap.IsTuple l items) (hi : PyProof.Rows.StrsAre items.toList xs) (hx : xs.length + 1 < scanBound) :
    codeAny (model prog w) A (.call (.builtin "set.__init__") ⟨[.ref s.heap.objs.size, .ref l], []⟩)
      (wants (fun r s2 => r = .none ∧ ∃ h' tk c, s2 = { s with heap := h', toks := tk } ∧ Cnt xs xs.length c ∧ h'.SetOf (PySem.strKind prog w) s.heap.objs.size (Has xs xs.length) c ∧ (∀ q o, s.heap.get? q = some o → h'.get? q = some o)) E)
      { s with heap := s.heap.push (setObj led) } := by
  have hT : Shared.TypeIs { s with heap := s.heap.push (setObj led) } (.ref s.heap.objs.size) "set" := ⟨_, Heap.get?_push_size _ rfl, rfl⟩
  refine codeAny_call_builtin PySem.F.called_set.init.plain PySem.F.entry_set_init (check_set_init_1 hT ?_)
  obtain ⟨⟨kc, kd, kx, ks⟩, hol, hcl, nl, hdl⟩ := hl
  simp only at hcl hdl
  subst hcl hdl
  have hol' : (s.heap.push (setObj led)).get? l = some _ := Heap.get?_push_of_some _ hol
  have hl1 : (s.heap.push (setObj led)).IsTuple l items := ⟨_, hol', rfl, nl, rfl⟩
  have hsls := PySem.F.sub_tuple_set
  have hslf := PySem.F.sub_tuple_frozenset
  have hne : (Value.type "tuple" == Value.type "dict") = false := by decide
  unfold Builtin.«set.__init__» noKeywords Builtin.Frozenset.updateFrom
  generalize ePI : pyIter = PI
  wp_walk
  subst ePI
  refine wpAny_pyIter_tuple hl1 (wpAny_bind (wpAny_runValue ?_))
  have below : l < s.heap.objs.size := Heap.lt_size hol
  have nh : A.in1.in1.handled = none := by simp [hh]
  have z1 : (s.heap.push (setObj led)).objs.size = s.heap.objs.size + 1 := Heap.size_push ..
  have apart : l ≠ (s.heap.push (setObj led)).objs.size := by
    rw [z1]
    exact Nat.ne_of_lt (Nat.lt_succ_of_lt below)
  have out : s.heap.objs.size ∉ [(s.heap.push (setObj led)).objs.size, l] := by
    rw [List.mem_cons, List.mem_singleton, z1]
    exact fun q => q.elim (Nat.ne_of_lt (Nat.lt_succ_self _)) (Nat.ne_of_gt below)
  have zx : xs.length = items.size := by rw [← StrsAre.len_eq hi, Array.length_toList]
  refine loopTx ((Walks.tuple nh _ l apart items).toS) s.heap.objs.size out xs zx (zx ▸ hx) (fun i v e => SS.strs_at hi i v (Array.getElem?_toList ▸ e)) (items.size - 0) 0 _ (by omega) (Nat.zero_le _) ?at_ ?first ?last
  case at_ => exact ⟨⟨_, Heap.get?_push_size _ rfl, rfl, rfl⟩, hl1.push _⟩
  case first =>
    refine ⟨0, Cnt.nil xs, ?_⟩
    refine SetOf_congr ((PyProof.Rows.setObjOf_fresh (knd := PySem.strKind prog w) led).setOf (Heap.get?_push_of_some _ (Heap.get?_push_size _ rfl)) (by unfold scanBound; omega)) (fun y => ?_) rfl
    rfl
  case last =>
    rintro ⟨h', g', d', tk', os'⟩ c mv hc ho
    obtain rfl : g' = s.gens := mv.gens
    obtain rfl : d' = s.drawn := mv.drawn
    obtain rfl : os' = s.os := mv.os
    refine wpAny_pure (wpAny_pure ⟨rfl, h', tk', c, rfl, zx ▸ hc, zx ▸ ho, fun q o e => ?_⟩)
    have lq := Heap.lt_size e
    refine mv.heap q o (by rw [List.mem_cons, List.mem_singleton, z1]; exact fun z => z.elim (Nat.ne_of_lt lq) (Nat.ne_of_lt (Nat.lt_succ_of_lt lq))) (Heap.get?_push_of_some _ (Heap.get?_push_of_some _ e))
set_option maxHeartbeats 8000000 in
theorem call_set_tx {l : Addr} {items : Array Value} {xs : List Str} {Q : Value → Shared → Prop} (hh : A.handled = none) (hl : s.heap.IsTuple l items) (hi : PyProof.Rows.StrsAre items.toList xs) (hx : xs.length + 1 < scanBound)
    (h : ∀ (h' : Heap) (tk c : Nat), Cnt xs xs.length c → h'.SetOf (PySem.strKind prog w) s.heap.objs.size (Has xs xs.length) c → (∀ q o, s.heap.get? q = some o → h'.get? q = some o) → Q (.ref s.heap.objs.size) { s with heap := h', toks := tk }) :
    wpAny (model prog w) A (call (.type "set") [.ref l]) Q E s := by
  obtain ⟨_, _, hmro⟩ := PySem.F.called_set.mro
  have hmade := PySem.F.called_set.made
  have hsub := PySem.F.called_set.sub
  have h1 := PySem.F.called_set.notType
  have h2 := PySem.F.called_set.canCreate
  have hct := PySem.F.typeCall_set_1 (.ref l)
  refine wpAny_call (codeAny_of_tree (wpAny_pure (a := _) ⟨Code.quiet_builtin _ (by decide +kernel), codeAny_builtin PySem.F.entry_type_call ?_⟩))
  rw [Around.under_plain (weight_type_call_type "set" [.ref l] []) rfl]
  repeat (any_goals (first | assumption | wp_step))
  refine codeAny_mono (code_set_new_1 (.ref l) (E := E) (Q₁ := fun v s1 => ∃ led, v = .ref s.heap.objs.size ∧ s1 = { s with heap := s.heap.push (setObj led) }) fun led => ⟨led, rfl, rfl⟩) fun r s1 hr => ?_
  match r, hr with
  | .ok (.ret v), hr =>
    obtain ⟨led, rfl, rfl⟩ := hr
    have hS : (s.heap.push (setObj led)).get? s.heap.objs.size = some (setObj led) := Heap.get?_push_size _ rfl
    have hT : Shared.TypeIs { s with heap := s.heap.push (setObj led) } (.ref s.heap.objs.size) "set" := ⟨_, hS, rfl⟩
    have hli := PySem.F.called_set.init.lookup
    have hbi := PySem.F.called_set.init.bind (.ref s.heap.objs.size)
    repeat (any_goals (first | assumption | wp_step))
    refine codeAny_mono (init_tx (E := E) (by simp [hh]) hl hi hx) fun r s2 hr => ?_
    match r, hr with
    | .ok (.ret v), hr =>
      obtain ⟨rfl, h', tk, c, rfl, hc, ho, keep⟩ := hr
      repeat (any_goals (first | assumption | wp_step))
      exact h h' tk c hc ho keep
    | .error e, hr => exact hr
    | .ok .next, hr => exact hr.elim
    | .ok .brk, hr => exact hr.elim
    | .ok .cont, hr => exact hr.elim
  | .error e, hr => exact hr
  | .ok .next, hr => exact hr.elim
  | .ok .brk, hr => exact hr.elim
  | .ok .cont, hr => exact hr.elim
end
/-- len(set(t)), t a tuple of texts: how many different ones, so far as it matters here -/
def tLenSetTx (K : PySem.W.Frag) (ta : TE) : TE := fun σ H Q => ta σ H fun x H1 => ∃ (l : Addr) (xs : List Str), x = .ref l ∧ SqT K H1 l (xs.map V.str) ∧ xs.length < 64 ∧ ∀ c : Nat, c ≤ xs.length → (c = xs.length ↔ xs.Nodup) → Q (.int c) H1
theorem pe_lenSetTx {X : Cx} {a : Expr} {ta : TE} {p p2 q pos : Pos} (hg : Gl X "len") (hm : X.mg "len" = none) (hg2 : Gl X "set") (hm2 : X.mg "set" = none) (ha : PE X a ta) (hc : X.calm = true := by rfl)
    (na : starEach [a] X.env = (false, eval a X.env) :: starEach [] X.env := by rfl) : PE X (.Call (.Name "len" p) [.Call (.Name "set" p2) [a] [] q] [] pos) (tLenSetTx X.K ta) := by
  refine ⟨fun pins s σ H Q I h => Call_ (ld_blt I hg hm boot_len (PyProof.Rows.callWith_builtin1 (PyProof.Rows.args_cons (Call_ (ld_blt I hg2 hm2 boot_set (PyProof.Rows.callWith_type1 (PyProof.Rows.args_cons (thn (ha.run pins s σ H _ I h) fun v s1 ⟨x, H1, I1, r1, q1⟩ => PyProof.Rows.args_nil ?_) na) na rfl))) rfl) rfl rfl))⟩
  obtain ⟨l, xs, rfl, ht, few, q1⟩ := q1
  obtain rfl : v = Value.ref l := r1
  obtain ⟨its, rv, pl, _⟩ := I1.tuple ht
  refine call_set_tx (I1.ok.hd hc) pl (by simpa using strsAre_of rv) (by unfold scanBound; omega) fun h' tk c hcn hS keep => PyProof.Rows.args_nil ?_
  obtain ⟨o, es, ep, tb, ho, hex, hd, _, _, _, hf, hn⟩ := hS
  have I2 : Inv X pins σ H1 { s1 with heap := h', toks := tk } := I1.kept keep
  obtain ⟨c1, c2⟩ := hcn
  rw [List.take_length] at c2
  exact call_len_set ho hex hd hf (by rw [hn]; omega) ⟨.int c, H1, I2.tok _, ⟨_, by rw [hn]⟩, q1 c c1 c2⟩
end El

set_option Elab.async false
set_option linter.all false
set_option maxRecDepth 100000
set_option maxHeartbeats 4000000
/-! Own words: enumerate(t) of a tuple. -/
namespace El
open PySem PySem.Spec PyProof.Rows L2
open AutoSeq1 (wpAny_loadPart')
/-- the tuple at a, each item in a new pair with its place -/
def IteT (K : PySem.W.Frag) (a : Addr) : It where
  go := fun i H => ∃ (xs : List V) (x : V), SqT K H a xs ∧ xs[i]? = some x
  yld := fun i H v H' => ∃ T x, v = .ref T ∧ H T = none ∧ H' = upd H T (.tup [.int (i : Nat), x]) ∧ ∀ xs, SqT K H a xs → xs[i]? = some x
  stop := fun i H => ∃ xs : List V, SqT K H a xs ∧ xs.length ≤ i
theorem walk_enumT {K : PySem.W.Frag} {a : Addr} {xs : List V} : Walk (IteT K a) xs.length (fun H => SqT K H a xs) (YPair (fun i => some (.int (i : Nat))) (fun i => xs[i]?)) where
  goes := fun i _ hi q => ⟨xs, xs[i], q, by simp [hi]⟩
  stops := fun _ q => ⟨xs, q, Nat.le_refl _⟩
  yields := fun i H v H' _ q y => by
    obtain ⟨T, x, h1, h2, h3, h4⟩ := y
    exact ⟨T, .int (i : Nat), x, h1, h2, h3, rfl, h4 xs q⟩
/-- the object of an enumerate over it, at its beginning -/
def enObj (it : Addr) : Obj := { cls := .type "enumerate", data := .fields #[.none, .bool false, .ref it, rawInt 0, .none, .none] }
theorem enum_newT (t : Addr) (items : Array Value) (n : Nat) (dct : Option Addr) (sl : Array (Option Value)) :
    Meets (Builtin.«enumerate.__new__» ⟨[.type "enumerate", .ref t], []⟩) (fun _ R s => s.heap.get? t = some ⟨.type "tuple", dct, .seq items n, sl⟩ ∧ R (.ok (.ret (.ref (s.heap.push (tiObj t)).objs.size))) { s with heap := (s.heap.push (tiObj t)).push (enObj s.heap.objs.size) }) :=
  .of_wp fun prog w A R s h => by
    obtain ⟨hp, g, d, tk, os⟩ := s
    obtain ⟨ht, h⟩ := h
    have hsub := sub_enumerate
    have hT : Heap.IsTuple (Shared.heap ⟨hp, g, d, tk, os⟩) t items := ⟨_, ht, rfl, n, rfl⟩
    wp_walk using wpAny_loadPart' ht
    refine wpAny_stack_any fun st => wpAny_pure ?_
    split
    · rename_i c _ _ _ _ _
      cases (c == Value.type "enumerate") <;> (wp_walk using wpAny_loadPart' ht, wpAny_pyIter_tuple hT; exact ⟨_, rfl, h⟩)
    · wp_walk using wpAny_loadPart' ht, wpAny_pyIter_tuple hT
      exact ⟨_, rfl, h⟩
section
variable {prog : Program} {w : World} {A : Around} {E : Value → Shared → Prop} {s : Shared}
theorem call_enumT {t : Addr} {items : Array Value} {Q : Value → Shared → Prop} (hT : s.heap.IsTuple t items)
    (h : ∀ h', IsEnum h' (s.heap.objs.size + 1) s.heap.objs.size 0 .none → h'.IsTupleIter s.heap.objs.size t 0 → (∀ b o, s.heap.get? b = some o → h'.get? b = some o) → Q (.ref (s.heap.objs.size + 1)) { s with heap := h' }) :
    wpAny (model prog w) A (call (.type "enumerate") [.ref t]) Q E s := by
  obtain ⟨⟨c, dct, dt, sl⟩, ht, hc, n, hd⟩ := hT
  simp only at hc hd
  subst hc hd
  refine callType_new F.called_enumerate (by decide) (F.typeCall_enumerate_1 _) (F.newCall_enumerate_1 _) (fun obj => F.args_object_init_2 obj _) F.entry_enumerate_new (enum_newT t items n dct sl) ⟨ht, ?_⟩
  have hz : (s.heap.push (tiObj t)).objs.size = s.heap.objs.size + 1 := Heap.size_push ..
  have he : IsEnum ((s.heap.push (tiObj t)).push (enObj s.heap.objs.size)) (s.heap.objs.size + 1) s.heap.objs.size 0 .none := by
    have q := Heap.get?_push_size (s.heap.push (tiObj t)) (o := enObj s.heap.objs.size) rfl
    rw [hz] at q
    exact q
  rw [hz]
  exact ⟨⟨_, he, rfl⟩, h _ he ⟨_, Heap.get?_push_of_some _ (Heap.get?_push_size _ rfl), rfl, rfl⟩ fun b o x => Heap.get?_push_of_some _ (Heap.get?_push_of_some _ x)⟩
end
theorem turn_enumT {P : Program} {w : World} {K : PySem.W.Frag} {elts : List Expr} {kk : Nat} {tpos : Pos} (t e it : Addr) (items : Array Value) :
    Turn P w K (.Tuple elts kk tpos) (IteT K t) [e, it] e (fun i h => (∃ old, IsEnum h e it ((i : Nat) : Int) old) ∧ h.IsTupleIter it t i ∧ e ≠ it ∧ t ≠ it ∧ t ≠ e) where
  mem := List.mem_cons_self
  obj := fun i h st b hb => by
    obtain ⟨⟨old, he⟩, ⟨o, ho, hc, hd⟩, _⟩ := st
    rw [List.mem_cons, List.mem_singleton] at hb
    rcases hb with z | z
    · exact z ▸ ⟨_, he, fun v q => nomatch q⟩
    · exact z ▸ ⟨o, ho, fun v q => by rw [hd] at q; cases q⟩
  keep := fun i h h' st k => by
    obtain ⟨⟨old, he⟩, hi, hne⟩ := st
    exact ⟨⟨old, k e List.mem_cons_self _ he⟩, hi.at fun o q => k it (List.mem_cons_of_mem _ List.mem_cons_self) o q, hne⟩
  item := by
    intro X hP hw hK hc i pins s σ H E I hf st hg
    subst hP hw hK
    obtain ⟨⟨old, he⟩, hit, hne, n1, n2⟩ := st
    obtain ⟨xs, x, hq, hx⟩ := hg
    obtain ⟨its, rv, p, hz⟩ := I.tuple hq
    obtain ⟨u, hu, ru⟩ := rv.get hx
    have lt : i < its.toArray.size := by
      have := (List.getElem?_eq_some_iff.mp hu).1
      simpa using this
    have le : e < s.heap.objs.size := Heap.lt_size he
    have li : it < s.heap.objs.size := by obtain ⟨_, q, _⟩ := hit; exact Heap.lt_size q
    have nf : e ∉ [it, t] := by
      rw [List.mem_cons, List.mem_singleton]
      exact fun z => z.elim hne fun z => n2 z.symm
    refine wpAny_pyNext_enum_itemD (Draws.tuple (A := X.A.in1) (by simpa using I.ok.hd hc) it t n1 its.toArray) he ⟨hit, p⟩ lt hne nf fun v h' tk hv ho hit' hT hsz hk => ?_
    obtain rfl : v = u := by
      have e1 : its.toArray[i]? = some u := by simpa using hu
      exact Option.some.inj (hv.symm.trans e1)
    refine ⟨_, rfl, wpAny_letOwnedTupleGo_enum (s := { s with heap := h', toks := tk + 1 }) ho fun h'' he' sb => ?_⟩
    have hT2 := (sb.2 _ (Nat.ne_of_gt le)).trans hT
    have new : ObjOk X.prog X.w (upd H s.heap.objs.size (.tup [.int (i : Nat), x])) h'' s.heap.objs.size (.tup [.int (i : Nat), x]) :=
      ⟨by show 2 ≤ sizeLine; decide, [.int i tk, v], .cons ⟨_, rfl⟩ (.cons ru .nil), ⟨_, hT2, rfl, _, rfl⟩⟩
    have I1 : Inv X pins σ (upd H s.heap.objs.size (.tup [.int (i : Nat), x])) { s with heap := h'', toks := tk + 1 } := by
      refine I.turnedNew (ch := [e, it]) (fun b ob hb q => ?_) hf (Nat.le_refl _) new
      rw [List.mem_cons, List.mem_singleton, not_or] at hb
      exact (sb.2 b hb.1).trans (hk b ob hb.1 hb.2 q)
    refine ⟨.ref s.heap.objs.size, _, I1, rfl, ⟨_, x, rfl, I.hok.fresh (Nat.le_refl _), rfl, fun ys hy => by rw [I.tuple_inj hy hq]; exact hx⟩, ⟨⟨v, ?_⟩, hit'.1.at fun o q => (sb.2 it (Ne.symm hne)).trans q, hne, n1, n2⟩, fun b hb => ?_⟩
    · have e1 : ((i + 1 : Nat) : Int) = (i : Int) + 1 := by omega
      rw [e1]
      exact he'
    · have lb : b < s.heap.objs.size := by
        rw [List.mem_cons, List.mem_singleton] at hb
        rcases hb with z | z
        · rw [z]; exact le
        · rw [z]; exact li
      rw [upd_ne (Nat.ne_of_lt lb)]
      exact (hf b hb).1
  done := by
    intro X hP hw hK hc i pins s σ H E I hf st hg
    subst hP hw hK
    obtain ⟨⟨old, he⟩, hit, hne, n1, n2⟩ := st
    obtain ⟨xs, hq, hx⟩ := hg
    obtain ⟨its, rv, p, hz⟩ := I.tuple hq
    obtain ⟨f0, f1, f2, f3, f4, f5⟩ := hf it (List.mem_cons_of_mem _ List.mem_cons_self)
    have none_ : its.toArray[i]? = none := by
      have hl := rv.length
      simp
      omega
    have D : Draws X.prog X.w X.A.in1 it [it, t] 0 (fun _ _ => False) (fun _ h => h.IsTupleIter it t i ∧ h.IsTuple t its.toArray) :=
      { live := fun _ _ st => let ⟨o, ho, _⟩ := st.1; ⟨o, ho⟩
        frame := fun _ _ _ st hk => ⟨st.1.at fun o e => hk it List.mem_cons_self o e, st.2.at fun o e => hk t (List.mem_cons_of_mem _ List.mem_cons_self) o e⟩
        item := fun _ _ _ _ z => absurd z (Nat.not_lt_zero _)
        done := fun s Q E st hE => wpAny_nextOf_tuple_end (by simpa using I.ok.hd hc) st.1 st.2 none_ hE }
    exact wpAny_pyNext_enum_endD D he ⟨hit, p⟩ fun h' eb => ⟨rfl, I.turned (t' := s.toks) (fun b o hb q => eb b o hb q) f0 f1 f3 f4 f5⟩
  self := fun A i s Q E st h => by
    obtain ⟨⟨_, he⟩, _⟩ := st
    exact wpAny_pyIter_enum he h
def iEnumT (K : PySem.W.Frag) (ta : TA) : TI := fun σ H R => ta σ H fun vs H1 => ∃ a xs, vs = [.ref a] ∧ SqT K H1 a xs ∧ R (IteT K a) H1
theorem pi_enumT {X : Cx} {e : Expr} {ta : TA} {p pos tpos : Pos} {elts : List Expr} {kk : Nat} (hg : Gl X "enumerate") (hm : X.mg "enumerate" = none) (ha : PA X [e] ta) (hs : starEach [e] X.env = [(false, eval e X.env)] := by rfl) :
    PI X (.Tuple elts kk tpos) (.Call (.Name "enumerate" p) [e] [] pos) (iEnumT X.K ta) := by
  refine ⟨fun pins s σ H R I h => Call_ (ld_blt I hg hm boot_enumerate (PyProof.Rows.callWith_type1 (thn (ha.run pos pins s σ H _ I h) fun us s1 ⟨vs, H1, I1, r1, a, xs, ex, hq, q⟩ => ?_) hs rfl))⟩
  subst ex
  obtain rfl := Vals.ref1 r1
  obtain ⟨its, rv, pt, hz⟩ := I1.tuple hq
  have la : a < s1.heap.objs.size := by obtain ⟨o, ho, _⟩ := pt; exact Heap.lt_size ho
  refine call_enumT pt fun h' he hit hk => wpAny_pyIter_enum he ?_
  refine ⟨s1.heap.objs.size + 1, [s1.heap.objs.size + 1, s1.heap.objs.size], _, _, H1, rfl, I1.kept (t' := s1.toks) hk, turn_enumT a (s1.heap.objs.size + 1) s1.heap.objs.size its.toArray, ⟨⟨.none, he⟩, hit, Nat.succ_ne_self _, Nat.ne_of_lt la, Nat.ne_of_lt (Nat.lt_succ_of_lt la)⟩, fun b hb => ?_, q⟩
  have hle : s1.heap.objs.size ≤ b := by
    rw [List.mem_cons, List.mem_singleton] at hb
    rcases hb with z | z
    · exact z ▸ Nat.le_succ _
    · exact z ▸ Nat.le_refl _
  exact I1.fpOk hle (I1.hok.fresh hle)
end El

set_option Elab.async false
set_option linter.all false
set_option maxRecDepth 100000
set_option maxHeartbeats 4000000
/-! Own words: a list or a tuple walked; own classes made, read by [..] inside a try; own exceptions without arguments. -/
namespace El
open PySem PySem.Spec PyProof.Rows L2 NdefX
section
variable {X : Cx} {tg l : Expr} {tl : TE}
def iSeq (K : PySem.W.Frag) (tl : TE) : TI := fun σ H R => tl σ H fun x H1 => ∃ a xs, x = .ref a ∧ ((SqL K H1 a xs ∧ R (Itl K a) H1) ∨ (SqT K H1 a xs ∧ R (Itt K a) H1))
theorem pi_seq (hl : PE X l tl) : PI X tg l (iSeq X.K tl) := by
  refine ⟨fun pins s σ H R I h => thn (hl.run pins s σ H _ I h) fun v s1 ⟨x, H1, I1, r1, a, xs, ex, q⟩ => ?_⟩
  subst ex
  obtain rfl : v = Value.ref a := r1
  have new : ∀ b ∈ [s1.heap.objs.size], FpOk X pins H1 b := fun b hb => by
    rw [List.mem_singleton] at hb
    exact hb ▸ I1.fpOk (Nat.le_refl _) (I1.hok.fresh (Nat.le_refl _))
  rcases q with ⟨hq, q⟩ | ⟨hq, q⟩
  · obtain ⟨its, rv, p, _⟩ := I1.list hq
    exact wpAny_pyIter_list p.isList ⟨_, _, _, _, H1, rfl, I1.kept (t' := s1.toks) fun b o e => Heap.get?_push_of_some _ e, turn_list a _, ⟨_, Heap.get?_push_size _ rfl, rfl, rfl⟩, new, q⟩
  · obtain ⟨its, rv, p, _⟩ := I1.tuple hq
    exact wpAny_pyIter_tuple p ⟨_, _, _, _, H1, rfl, I1.kept (t' := s1.toks) fun b o e => Heap.get?_push_of_some _ e, turn_tuple a _, ⟨_, Heap.get?_push_size _ rfl, rfl, rfl⟩, new, q⟩
end
theorem pi_seqK {X : Cx} {tg l : Expr} {tl : TE} (K : PySem.W.Frag) (hl : PE X l tl) (h : X.K = K := by rfl) : PI X tg l (iSeq K tl) := h ▸ pi_seq hl
section
variable {X : Cx} {CX : CXT} {k : Nat} {C f : Addr} {fd : FuncData} {ps : List Str} {ds : List Value} {dvs : List V} {sp : Sp} {E : L2.St → XK} {x : Str} {p pos : Pos} {a b e : Expr} {es : List Expr} {ta tb : TE} {t : TA}
/-- C(e, ..), what its __init__ lets out being taken where it stands -/
def tMakeS (C : Addr) (sp : Sp) (E : L2.St → XK) (t : TA) : TE := fun σ H Q => t σ H fun vs H1 => ∀ x dx, H1 x = none → H1 dx = none → dx ≠ x → sp (.ref x :: vs) (upd (upd H1 dx (.own x)) x (.ins C dx [])) (fun v H2 => v = .non ∧ Q (.ref x) H2) (E σ)
theorem run_makeS {pins : List (Addr × Obj)} {σ : L2.St} {H : Hp} {s : Shared} {Q : VK} {us : List Value} {vs : List V} {E : XK} (M : Mk X.K C f) (F : FnOk X.prog X.w X.K X.mg X.base CX k f fd ps sp) (hr : Room (k + 1) X.A) (hb : Binds X.K fd ps [])
    (hx : PassesAt CX X σ E) (I : Inv X pins σ H s) (r : Vals vs us)
    (h : ∀ x dx, H x = none → H dx = none → dx ≠ x → sp (.ref x :: vs) (upd (upd H dx (.own x)) x (.ins C dx [])) (fun v H2 => v = .non ∧ Q (.ref x) H2) E) : wpAny (model X.prog X.w) X.A (call (.ref C) us) (EP X pins σ Q) X.xe s := by
  have fresh := fun n hn => I.hok.fresh (a := n) hn
  have q := h (s.heap.objs.size + 1) s.heap.objs.size (fresh _ (Nat.le_succ _)) (fresh _ (Nat.le_refl _)) (Nat.ne_of_lt (Nat.lt_succ_self _))
  have J := Inv.made (C := C) I
  have rr : Vals (V.ref (s.heap.objs.size + 1) :: vs) (Value.ref (s.heap.objs.size + 1) :: us) := .cons rfl r
  have hl : (Value.ref (s.heap.objs.size + 1) :: us ++ []).length = ps.length := by rw [List.append_nil, ← rr.length]; exact F.len _ _ _ _ q
  have bt := hb _ (Value.ref (s.heap.objs.size + 1) :: us) J.kIn hl
  rw [List.append_nil] at bt
  refine wpAny_call (make_map (f := f) I.kIn M.makes M.init (beq_iff_eq.mp M.fn) (codeAny_mono (F.run _ X.stack _ _ ⟨Value.ref (s.heap.objs.size + 1) :: us, []⟩ _ _ _ E (hr.make C us []) (J.env0.make C us []) bt rr q) fun r s' hs => ?_))
  match r, hs with
  | .error e, hs => exact hx pins _ _ e s' J hs
  | .ok (.ret u), hs =>
    obtain ⟨v, H', J', rv, ev, q'⟩ := J.after hs
    subst ev
    exact ⟨rv, V.ref (s.heap.objs.size + 1), H', J', rfl, q'⟩
  | .ok .next, hs => exact False.elim hs
  | .ok .brk, hs => exact False.elim hs
  | .ok .cont, hs => exact False.elim hs
theorem pe_makeS (M : Mk X.K C f) (F : FnOk X.prog X.w X.K X.mg X.base CX k f fd ps sp) (hr : Room (k + 1) X.A) (hg : Gl X x) (hm : X.mg x = some (.ref C)) (hb : Binds X.K fd ps []) (hx : ∀ σ, PassesAt CX X σ (E σ)) (ha : PA X (e :: es) t)
    (hdb : (x == ("__debug__" : Str)) = false := by decide) (he : starEach (e :: es) X.env = (false, eval e X.env) :: starEach es X.env := by rfl) (hpl : (backTo pos (starEach es X.env)).any (·.1) = false := by rfl) :
    PE X (.Call (.Name x p) (e :: es) [] pos) (tMakeS C sp E t) := by
  refine ⟨fun pins s σ H Q I h => wpAny_Call_Name_kw (ld_glob I hg hm ?_ hdb)⟩
  refine PySem.W.callWith_K (h₀ := X.base) I.ok.mod.kin M.kp (thn (ha.run pos pins s σ H _ I h) fun us s1 ⟨vs, H1, I1, r, q⟩ => ⟨I1.kIn, ?_⟩) he hpl
  exact run_makeS M F hr hb (hx σ) I1 r q
/-- an own class's `__getitem__`, as it is read by [..] -/
structure SubC (K : PySem.W.Frag) (C f : Addr) : Prop where
  at_ : PySem.W.findIn K (.ref C) "__getitem__" = some (some (.ref f))
  fn : PySem.W.isFn K (.ref f) = true
  fi : PySem.W.fnIn K f = true
/-- a[y], a of the class at C, what it lets out being taken where it stands -/
def tItS (C : Addr) (sp : Sp) (E : L2.St → XK) (ta tb : TE) : TE := fun σ H Q => ta σ H fun x H1 => tb σ H1 fun y H2 => ∃ a dx fs, x = .ref a ∧ H2 a = some (.ins C dx fs) ∧ sp [.ref a, y] H2 Q (E σ)
theorem pe_itS (c : SubC X.K C f) (F : FnOk X.prog X.w X.K X.mg X.base CX k f fd ps sp) (hr : Room (k + 1) X.A) (hb : Binds X.K fd ps []) (hx : ∀ σ, PassesAt CX X σ (E σ)) (ha : PE X a ta) (hb2 : PE X b tb)
    (hs : ∀ o i, subscripted b true o i = runValue (.builtin "lifetime.subscript" ⟨[o, i], []⟩) := by intro _ _; rfl) : PE X (.Subscript a b pos) (tItS C sp E ta tb) := by
  refine ⟨fun pins s σ H Q I h => Subscript_ (binT ha hb2 I (R := fun x y H2 => ∃ a dx fs, x = .ref a ∧ H2 a = some (.ins C dx fs) ∧ sp [.ref a, y] H2 Q (E σ)) h fun v u s2 x y H2 I2 rx ry q => ?_)⟩
  obtain ⟨a, dx, fs, rfl, ea, q⟩ := q
  obtain rfl : v = Value.ref a := rx
  obtain ⟨m, fr⟩ := I2.fr
  obtain ⟨mA, O, _⟩ := ins_get I2.hok ea
  obtain ⟨od, J, _⟩ := O.look
  refine PySem.W.sub_K fr I2.ok.mod.kin J c.at_ c.fi c.fn ?_ (hs _ _)
  have hl : ([Value.ref a, u] ++ []).length = ps.length := F.len _ _ _ _ q
  have bt := hb s2 [.ref a, u] I2.kIn hl
  rw [List.append_nil] at bt
  refine wpAny_call (codeAny_mono (F.run X.A.in1 X.stack s2 H2 ⟨[.ref a, u], []⟩ [.ref a, u] [.ref a, y] Q (E σ) hr.in1 I2.env0.in1 bt (.cons rfl (.cons ry .nil)) q) fun r s' hq => ?_)
  match r, hq with
  | .error e, hq => exact hx σ pins H2 s2 e s' I2 hq
  | .ok (.ret u), hq => exact I2.after hq
  | .ok .next, hq => exact False.elim hq
  | .ok .brk, hq => exact False.elim hq
  | .ok .cont, hq => exact False.elim hq
end
section
variable {X : Cx} {CX : CXT} {k : Nat} {C f : Addr} {fd : FuncData} {ps : List Str} {sp : Sp} {E : XK} {pos : Pos} {a b : Expr} {ta tb : TE}
theorem pe_itO (c : SubC X.K C f) (F : FnOk X.prog X.w X.K X.mg X.base CX k f fd ps sp) (hr : Room (k + 1) X.A) (hb : Binds X.K fd ps []) (hx : Passes CX X E) (ha : PE X a ta) (hb2 : PE X b tb)
    (hs : ∀ o i, subscripted b true o i = runValue (.builtin "lifetime.subscript" ⟨[o, i], []⟩) := by intro _ _; rfl) : PE X (.Subscript a b pos) (tItS C sp (fun _ => E) ta tb) :=
  pe_itS c F hr hb (fun σ pins H s e s' I h => hx pins σ H s e s' I h) ha hb2 hs
end
/-! ### an own exception made without arguments -/
section
variable {X : Cx} {p pos : Pos}
theorem pmk_oex0 {CX : CXT} {x : Str} {C fI : Addr} {k : Nat} {fd : FuncData} {ps : List Str} {sp : Sp} (T : OexC X.K C) (iC : PySem.W.findIn X.K (.ref C) "__init__" = some (some (.ref fI))) (tI : PySem.W.typeIn X.K (.ref fI) = some (.type "function"))
    (F1 : FnOk X.prog X.w X.K X.mg X.base CX k fI fd ps sp) (hr : Room (k + 1) X.A) (hb : Binds X.K fd ps []) (hx : Passes CX X (fun _ _ _ => False)) (hg : Gl X x) (hm : X.mg x = some (.ref C)) (hdb : (x == ("__debug__" : Str)) = false := by decide) :
    PMk X (.Call (.Name x p) [] [] pos) (tMkO C sp [] tNil) := by
  intro pins s σ H Q I h
  obtain ⟨nm, q, N, bs, bm, sn, sub, ab, col, dd, k0, k1, k2, k3, k5, hC, hbm⟩ := T.cls
  refine wpAny_Call_Name_kw (ld_glob I hg hm ?_ hdb)
  refine PySem.W.callWith_K0 I.kIn T.kC ?_
  obtain ⟨_, q1⟩ := h
  obtain ⟨hp, g, dr, tk, os⟩ := s
  have up : hp.objs.size ≤ hp.objs.size + 1 := Nat.le_succ _
  have hq := q1 (hp.objs.size + 1) (I.hok.fresh up)
  have stay : ∀ b o, hp.get? b = some o → ((hp.push (PySem.W.kdv_tup [])).push (PySem.HandSPX.excO C hp.objs.size)).get? b = some o := fun b o e => Heap.get?_push_of_some _ (Heap.get?_push_of_some _ e)
  have there : ((hp.push (PySem.W.kdv_tup [])).push (PySem.HandSPX.excO C hp.objs.size)).get? (hp.objs.size + 1) = some (PySem.HandSPX.excO C hp.objs.size) := by heap_get
  have I2 := I.laid (t' := tk) (a := hp.objs.size + 1) (o := exo (hp.objs.size + 1) C none) (h' := (hp.push (PySem.W.kdv_tup [])).push (PySem.HandSPX.excO C hp.objs.size)) stay up (exo_ok there)
  have hl : ([Value.ref (hp.objs.size + 1)] ++ []).length = ps.length := F1.len _ _ _ _ hq
  refine wpAny_call (PySem.HandSPX.call_own F.excBase_ValueError (fun Y => PySem.HandSPX.refsVE_contains Y bm hbm) (I.kIn _ _ hC) (PySem.W.looks_findIn I.kIn iC) (fun self => PySem.W.bind_fn I.kIn self tI) (Nat.zero_le _)
    (codeAny_mono (F1.run _ X.stack _ _ ⟨[Value.ref (hp.objs.size + 1)], []⟩ [Value.ref (hp.objs.size + 1)] _ _ (fun _ _ _ => False) (hr.make C [] []) (I2.env0.make C [] []) (hb _ [Value.ref (hp.objs.size + 1)] I2.kIn hl) (show Vals [V.ref (hp.objs.size + 1)] [Value.ref (hp.objs.size + 1)] from .cons rfl .nil) hq) fun r s' hs => ?_))
  match r, hs with
  | .error er, hs => exact hx pins σ _ _ er s' I2 hs
  | .ok (.ret u), hs =>
    obtain ⟨v, H2, os2, bare2, un2, hok2, rv, ev, d, fs, ea, ed, hd1, q2⟩ := hs
    subst ev
    obtain ⟨h2, g2, d2, t2, os'⟩ := s'
    exact ⟨rv, mk_end (raises_own T.exC T.tyC) I up stay un2 hok2 os2 bare2 ea ed hd1 q2⟩
  | .ok .next, hs => exact False.elim hs
  | .ok .brk, hs => exact False.elim hs
  | .ok .cont, hs => exact False.elim hs
end
/-! ### lists turned round, places of items -/
theorem mt_reverseL {X : Cx} : MtM X "list.reverse" (fun x vs H Q => ∃ l xs, x = .ref l ∧ vs = [] ∧ H l = some (.lst xs) ∧ Q .non (upd H l (.lst xs.reverse))) := by
  intro pins s σ H x vs v us Q I rx rv h
  obtain ⟨l, xs, rfl, rfl, hH, q⟩ := h
  obtain rfl : v = Value.ref l := rx
  obtain rfl := rv.zero
  obtain ⟨z, its, n, r, hl, e⟩ := I.lstM hH
  have few : its.length ≤ sizeLine := by rw [← r.length]; omega
  refine call_meets F.slot_list_reverse ⟨_, e, rfl⟩ F.entry_list_reverse (F.args_list_reverse_1 _) (AutoSeq1.list_reverse_list_0 l its.toArray n (by simpa using few)) ⟨e, ?_⟩
  exact ⟨.non, _, I.lset (its' := its.reverse) (ys := xs.reverse) hH e (by simp) r.reverse (by rw [List.length_reverse]; omega), rfl, q⟩
theorem mindexK {X : Cx} (K : PySem.W.Frag) (h : X.K = K := by rfl) : MtR X "list.index" (rIndex K) := h ▸ mt_index
theorem mtupK {X : Cx} (K : PySem.W.Frag) (h : X.K = K := by rfl) : MtR X "tuple.index" (fun x xs H Q => ∃ p, ∃ ys : List Str, ∃ z j, x = .ref p ∧ xs = [.str z] ∧ SqT K H p (ys.map V.str) ∧ ys[j]? = some z ∧ (∀ m, m < j → ys[m]? ≠ some z) ∧ Q (.int (j : Nat)) H) := h ▸ mt_tup_index
/-! ### defs of own classes, ready to be called -/
structure CalIn (P : Program) (w : World) (K : PySem.W.Frag) (mg : Str → Option Value) (base : Heap) (CX : CXT) (k : Nat) (C f : Addr) (fd : FuncData) (ps : List Str) (sp : Sp) : Prop extends CalB P w K mg base CX k f fd ps sp where
  ic : InC K C f
structure CalSub (P : Program) (w : World) (K : PySem.W.Frag) (mg : Str → Option Value) (base : Heap) (CX : CXT) (k : Nat) (C f : Addr) (fd : FuncData) (ps : List Str) (sp : Sp) : Prop extends CalB P w K mg base CX k f fd ps sp where
  su : SubC K C f
structure CalIt (P : Program) (w : World) (K : PySem.W.Frag) (mg : Str → Option Value) (base : Heap) (CX : CXT) (k : Nat) (C f : Addr) (sp : Nat → Sp) : Prop where
  F : FnS P w K mg base CX k f sp
  oi : OitC K C f
end El

set_option Elab.async false
set_option linter.all false
set_option maxRecDepth 100000
set_option maxHeartbeats 4000000
/-! Own words: comprehensions with two clauses, walk in walk. -/
namespace El
open PySem PySem.Spec PyProof.Rows L2
/-- the second clause's loop, from which Nx is reached -/
def Inner2 (J1 : It) (g1 : TG) (tt1 : TT) (te : TE) (σ2 : L2.St) (vs1 : List Nat) (D : Addr) (Nx : Hp → Prop) (H4 : Hp) : Prop :=
  ∃ W1 : Nat → Nat → Hp → Prop, (∃ m, W1 0 m H4) ∧ ∀ j k H, W1 j k H → (J1.stop j H ∧ Nx H) ∨ (J1.go j H ∧ ∃ Nx1 : Hp → Prop, (∀ H', Nx1 H' → ∃ k', k' < k ∧ W1 (j + 1) k' H') ∧ ∀ x H', J1.yld j H x H' → g1 x (wipe σ2 vs1) H' fun σ3 H5 => wipe σ3 vs1 = wipe σ2 vs1 ∧ tt1 σ3 H5 fun b H6 =>
    if b = true then te σ3 H6 fun y H7 => ∃ acc, H7 D = some (.lst acc) ∧ acc.length < sizeLine ∧ Nx1 (upd H7 D (.lst (acc ++ [y]))) else Nx1 H6)
theorem inner2_it {J1 : It} {n : Nat} {G : Hp → Prop} {Y : Nat → Hp → V → Hp → Prop} (w : Walk J1 n G Y) {g1 : TG} {tt1 : TT} {te : TE} {σ2 : L2.St} {vs1 : List Nat} {D : Addr} {Nx : Hp → Prop} {H4 : Hp} (Pv : Nat → Hp → Prop) (h0 : Pv 0 H4) (hG : ∀ j H, j ≤ n → Pv j H → G H)
    (hs : ∀ j x H H', j < n → Pv j H → Y j H x H' → g1 x (wipe σ2 vs1) H' fun σ3 H5 => wipe σ3 vs1 = wipe σ2 vs1 ∧ tt1 σ3 H5 fun b H6 =>
      if b = true then te σ3 H6 fun y H7 => ∃ acc, H7 D = some (.lst acc) ∧ acc.length < sizeLine ∧ Pv (j + 1) (upd H7 D (.lst (acc ++ [y]))) else Pv (j + 1) H6)
    (hd : ∀ H, Pv n H → Nx H) : Inner2 J1 g1 tt1 te σ2 vs1 D Nx H4 := by
  refine ⟨fun j k H => k = n - j ∧ j ≤ n ∧ Pv j H, ⟨n, by simp, Nat.zero_le _, h0⟩, ?_⟩
  rintro j k H ⟨rfl, hj, p⟩
  have q := hG j H hj p
  by_cases e : j < n
  · exact .inr ⟨w.goes j H e q, Pv (j + 1), fun H' p' => ⟨n - (j + 1), by omega, rfl, e, p'⟩, fun x H' y => hs j x H H' e p (w.yields j H x H' e q y)⟩
  · obtain rfl : j = n := by omega
    exact .inl ⟨w.stops H q, hd H p⟩
theorem lc2_it {J : It} {n : Nat} {G : Hp → Prop} {Y : Nat → Hp → V → Hp → Prop} (w : Walk J n G Y) {g : TG} {tt : TT} {wi1 : TI} {g1 : TG} {tt1 : TT} {te : TE} {vs vs1 : List Nat} {σ : L2.St} {H1 : Hp} {D : Addr} {Qd : Hp → Prop} (Pv : Nat → Hp → Prop) (h0 : Pv 0 (upd H1 D (.lst []))) (hG : ∀ i H, i ≤ n → Pv i H → G H)
    (hs : ∀ i x H H', i < n → Pv i H → Y i H x H' → g x (wipe σ vs) H' fun σ2 H2 => wipe σ2 vs = wipe σ vs ∧ tt σ2 H2 fun b H3 =>
      if b = true then wi1 σ2 H3 fun J1 H4 => Inner2 J1 g1 tt1 te σ2 vs1 D (Pv (i + 1)) H4 else Pv (i + 1) H3)
    (hd : ∀ H, Pv n H → Qd H) :
    ∃ W : Nat → Nat → Hp → Prop, (∃ m, W 0 m (upd H1 D (.lst []))) ∧ ∀ i m H, W i m H →
      (J.stop i H ∧ Qd H) ∨ (J.go i H ∧ ∃ Nx : Hp → Prop, (∀ H', Nx H' → ∃ m', m' < m ∧ W (i + 1) m' H') ∧ ∀ x H', J.yld i H x H' → g x (wipe σ vs) H' fun σ2 H2 => wipe σ2 vs = wipe σ vs ∧ tt σ2 H2 fun b H3 =>
        if b = true then wi1 σ2 H3 fun J1 H4 => Inner2 J1 g1 tt1 te σ2 vs1 D Nx H4 else Nx H3) := by
  refine ⟨fun i m H => m = n - i ∧ i ≤ n ∧ Pv i H, ⟨n, by simp, Nat.zero_le _, h0⟩, ?_⟩
  rintro i m H ⟨rfl, hi, p⟩
  have q := hG i H hi p
  by_cases e : i < n
  · exact .inr ⟨w.goes i H e q, Pv (i + 1), fun H' p' => ⟨n - (i + 1), by omega, rfl, e, p'⟩, fun x H' y => hs i x H H' e p (w.yields i H x H' e q y)⟩
  · obtain rfl : i = n := by omega
    exact .inl ⟨w.stops H q, hd H p⟩
/-- tuple(p), p a list or a tuple: a tuple of the same items stands behind it -/
theorem tupS {X : Cx} : CallR X (.type "tuple") (fun xs H Q => ∃ p ys, xs = [.ref p] ∧ (H p = some (.lst ys) ∨ H p = some (.tup ys)) ∧ ∀ H1 t, (∀ b o, H b = some o → H1 b = some o) → H1 t = some (.tup ys) → Q (.ref t) H1) := cwk call_tuple_of fun xs H Q q => by
  obtain ⟨p, ys, rfl, hp, q⟩ := q
  rcases hp with hp | hp
  · refine ⟨p, ys, rfl, .inl ⟨SqL.of hp, fun l nl => q _ l (fun b o hb => ?_) upd_same⟩⟩
    rw [upd_ne (fun e => by rw [e, nl] at hb; cases hb)]
    exact hb
  · exact ⟨p, ys, rfl, .inr ⟨SqT.of hp, q H p (fun _ _ h => h) hp⟩⟩
end El

set_option Elab.async false
set_option linter.all false
set_option maxRecDepth 100000
set_option maxHeartbeats 4000000
/-! Own words: a set comprehension of texts, and such a set sorted. -/
namespace El
open PySem PySem.Spec PyProof.Rows L2

/-- the text of an entry -/
def txE (e : Int × Value) : Str := match e.2 with | .str k _ => k | _ => Str.empty
/-- an entry as a set of texts has it -/
def TxE (P : Program) (w : World) (e : Int × Value) : Prop := ∃ k t, e.2 = Value.str k t ∧ e.1 = (PySem.strKind P w).hash k
/-- a set of texts, walkable: S its members, n their number -/
def TxS (P : Program) (w : World) (h : Heap) (a : Addr) (S : Str → Bool) (n : Nat) : Prop :=
  ∃ o es ep t, h.get? a = some o ∧ o.ExactSet ∧ o.data = .set es ep t ∧ (∀ e ∈ es.toList, TxE P w e) ∧ (es.toList.map txE).Nodup ∧ (∀ k, S k = true ↔ k ∈ es.toList.map txE) ∧
    es.size < scanBound ∧ t.fits es.size = true ∧ es.size = n ∧ Ris t.place.toList ∧ (w.params.followText "set-order" = true ∨ t.led = true)

section
variable {P : Program} {w : World} {h h' : Heap} {a : Addr} {S : Str → Bool} {n : Nat}
theorem TxS.at (R : TxS P w h a S n) (k : ∀ o, h.get? a = some o → h'.get? a = some o) : TxS P w h' a S n := by
  obtain ⟨o, es, ep, t, ho, r⟩ := R
  exact ⟨o, es, ep, t, k o ho, r⟩
theorem tx_is {e : Int × Value} (g : TxE P w e) (k : Str) : (PySem.strKind P w).is k e.2 = true ↔ txE e = k := by
  obtain ⟨k0, t, h1, _⟩ := g
  have e0 : txE e = k0 := by unfold txE; rw [h1]
  rw [e0]
  constructor
  · intro q
    exact (PySem.strKind P w).inj e.2 _ _ (by rw [h1]; exact strKind_is _ _ _ _) q
  · rintro rfl
    rw [h1]
    exact strKind_is _ _ _ _
theorem tx_elems {l : List (Int × Value)} (g : ∀ e ∈ l, TxE P w e) : ElemsOf (PySem.strKind P w) l := fun e he => by
  obtain ⟨k, t, h1, h2⟩ := g e he
  exact ⟨⟨k, by rw [h1]; exact strKind_is _ _ _ _, h2⟩, by rw [h1]; rfl⟩
theorem tx_mem {l : List (Int × Value)} (g : ∀ e ∈ l, TxE P w e) (k : Str) : k ∈ l.map txE ↔ ∃ e ∈ l, (PySem.strKind P w).is k e.2 = true := by
  rw [List.mem_map]
  exact ⟨fun ⟨e, he, q⟩ => ⟨e, he, (tx_is (g e he) k).2 q⟩, fun ⟨e, he, q⟩ => ⟨e, he, (tx_is (g e he) k).1 q⟩⟩
theorem TxS.setOf (R : TxS P w h a S n) : h.SetOf (PySem.strKind P w) a S n := by
  obtain ⟨o, es, ep, t, ho, hx, hd, g, nd, hm, hb, hf, hn, _⟩ := R
  exact ⟨o, es, ep, t, ho, hx, hd, tx_elems g, fun k => (hm k).trans (tx_mem g k), hb, hf, hn⟩
end

section
variable {P : Program} {w : World} {A : Around} {E : Value → Shared → Prop} {s : Shared} {a : Addr} {S : Str → Bool} {n : Nat}
/-- storing the entries, laid anew where the table is too full -/
theorem tx_store {g : Bool → Sem Unit} (hg : ∀ (b : Bool) (s₁ : Shared) (Q' : Unit → Shared → Prop), Q' () s₁ → wpAny (model P w) A (g b) Q' E s₁)
    {o : Obj} {es : Array (Int × Value)} {ep : Nat} {t : SetTable} (ho : s.heap.get? a = some o) (hex : o.ExactSet) (hd : o.data = .set es ep t)
    {es1 : Array (Int × Value)} {t2 : SetTable} {S' : Str → Bool} (g1 : ∀ e ∈ es1.toList, TxE P w e) (nd1 : (es1.toList.map txE).Nodup) (m1 : ∀ k, S' k = true ↔ k ∈ es1.toList.map txE)
    (hb1 : es1.size < scanBound) (hf2 : t2.fits es1.size = true) (hr : Ris t2.place.toList) (hl : w.params.followText "set-order" = true ∨ t2.led = true) {wasDummy : Bool} {R : Option Bool → Shared → Prop}
    (hR : ∀ h', Heap.SameBut a s.heap h' → TxS P w h' a S' es1.size → R (some true) { s with heap := h' }) :
    wpAny (model P w) A (do
        storeSet a es1 t2
        if (!wasDummy && t2.tooFull) = true then do
            g (relayAll t2 es1 (SetTable.grown es1.size)).2.2
            storeSet a (relayAll t2 es1 (SetTable.grown es1.size)).1 (relayAll t2 es1 (SetTable.grown es1.size)).2.1
            pure (some true)
          else pure (some true)) R E s := by
  refine wpAny_bind (wpAny_storeSet_of ho hd ?_ (fits_of_scanBound hb1))
  have ho1 := PpSet.storeB_at (es' := es1) (t' := t2) ho hd
  have sb1 := Heap.SameBut.update s.heap a (Obj.putSet es1 t2)
  split
  · obtain ⟨pm, hf3, hr3, hl3⟩ : (relayAll t2 es1 (SetTable.grown es1.size)).1.toList.Perm es1.toList ∧ (relayAll t2 es1 (SetTable.grown es1.size)).2.1.fits (relayAll t2 es1 (SetTable.grown es1.size)).1.size = true ∧ Ris (relayAll t2 es1 (SetTable.grown es1.size)).2.1.place.toList ∧ (relayAll t2 es1 (SetTable.grown es1.size)).2.1.led = t2.led :=
      ⟨relayAll_perm _ _ _, relayAll_fits _ _ _, relayAll_ris _ _ _, relayAll_led _ _ _⟩
    generalize relayAll t2 es1 (SetTable.grown es1.size) = Z at pm hf3 hr3 hl3 ⊢
    obtain ⟨es2, t3, gave⟩ := Z
    dsimp only at pm hf3 hr3 hl3 ⊢
    have hsz : es2.size = es1.size := by rw [← Array.length_toList, pm.length_eq, Array.length_toList]
    refine wpAny_bind (hg _ _ _ ?_)
    refine wpAny_bind (wpAny_storeSet_of ho1 rfl ?_ (fits_of_scanBound (by rw [hsz]; exact hb1)))
    have ho2 := PpSet.storeB_at (es' := es2) (t' := t3) ho1 rfl
    refine wpAny_pure (hR _ (sb1.trans (Heap.SameBut.update _ a _)) ?_)
    exact ⟨_, es2, _, t3, ho2, hex, rfl, fun e he => g1 e (pm.mem_iff.mp he), (pm.map txE).nodup_iff.mpr nd1, fun k => (m1 k).trans (pm.map txE).mem_iff.symm, by rw [hsz]; exact hb1, hf3, hsz, hr3,
      hl.imp id fun z => by rw [hl3]; exact z⟩
  · exact wpAny_pure (hR _ sb1 ⟨_, es1, _, t2, ho1, hex, rfl, g1, nd1, m1, hb1, hf2, rfl, hr, hl⟩)

theorem tx_add_hashed {k : Str} {u : PySem.Tok} {Q : Bool → Shared → Prop} (R : TxS P w s.heap a S n) (room : n + 1 < scanBound)
    (hQ : ∀ h', Heap.SameBut a s.heap h' → TxS P w h' a (fun j => S j || decide (j = k)) (if S k = true then n else n + 1) → Q (!S k) { s with heap := h' }) :
    wpAny (model P w) A (setAddHashed a (.str k u) ((PySem.strKind P w).hash k)) Q E s := by
  obtain ⟨o, es, ep, t, ho, hex, hd, g, nd, hm, hb, hf, hn, hr, hl⟩ := R
  have hkey : (PySem.strKind P w).is k (.str k u) = true := strKind_is _ _ _ _
  have hsc : (Value.str k u).scannable = true := rfl
  have hel : ElemsOf (PySem.strKind P w) es.toList := tx_elems g
  unfold setAddHashed setAddHashedIn
  refine wpAny_holding (wpAny_bind (wpAny_setState_of ho hd hf ?_))
  dsimp only
  rw [byScan_of hsc hb hel]
  simp only [↓reduceIte]
  unfold setAddByScan
  refine wpAny_bind ?_
  refine wpAny_bind (wpAny_rule ?_)
  refine wpAny_bind (wpAny_setScan_of hkey ho hd hf hel ?_)
  cases hfi : List.findIdx? (fun e => (PySem.strKind P w).is k e.2) es.toList with
  | some j =>
    dsimp only
    obtain ⟨hj, pj, _⟩ := List.findIdx?_eq_some_iff_getElem.mp hfi
    have hSk : S k = true := (hm k).2 ((tx_mem (P := P) (w := w) g k).2 ⟨es.toList[j], List.getElem_mem hj, pj⟩)
    refine wpAny_pure (wpAny_pure ?_)
    have q := hQ s.heap (Heap.SameBut.refl a s.heap) ⟨o, es, ep, t, ho, hex, hd, g, nd, fun i => by
      rw [Bool.or_eq_true, decide_eq_true_eq, ← hm i]
      exact ⟨fun z => z.elim id (fun e => e ▸ hSk), .inl⟩, hb, hf, by rw [if_pos hSk]; exact hn, hr, hl⟩
    rw [hSk] at q
    exact q
  | none =>
    dsimp only
    have hnk : k ∉ es.toList.map txE := fun z => by
      obtain ⟨e, he, q⟩ := (tx_mem (P := P) (w := w) g k).1 z
      have c := List.findIdx?_eq_none_iff.mp hfi e he
      rw [q] at c
      cases c
    have hSk : S k = false := Bool.eq_false_iff.mpr fun q => hnk ((hm k).1 q)
    have hgw : ∀ (b : Bool) {s₁ : Shared} {Q' : Unit → Shared → Prop}, Q' () s₁ → wpAny (model P w) A (match b with | true => rule "set.scan.the-table-gave-way" | false => pure ()) Q' E s₁ :=
      fun b s₁ Q' q => by cases b <;> first | exact wpAny_pure q | exact wpAny_rule q
    have pm := layNew_perm t es ((PySem.strKind P w).hash k) (.str k u)
    have hf1 := layNew_fits t es ((PySem.strKind P w).hash k) (.str k u)
    have hr1 := layNew_ris t es ((PySem.strKind P w).hash k) (.str k u) hr
    have hl1 := layNew_led t es ((PySem.strKind P w).hash k) (.str k u)
    generalize layNew t es ((PySem.strKind P w).hash k) (.str k u) = Z at pm hf1 hr1 hl1 ⊢
    obtain ⟨es1, t1, wasDummy, gave⟩ := Z
    dsimp only at pm hf1 hr1 hl1 ⊢
    rw [Array.toList_push] at pm
    have pc : es1.toList.Perm (((PySem.strKind P w).hash k, Value.str k u) :: es.toList) := pm.trans (List.perm_append_singleton _ _)
    have pk : (es1.toList.map txE).Perm (k :: es.toList.map txE) := pc.map txE
    have g1 : ∀ e ∈ es1.toList, TxE P w e := fun e he => by
      rcases List.mem_cons.mp (pc.mem_iff.mp he) with z | z
      · rw [z]; exact ⟨k, u, rfl, rfl⟩
      · exact g e z
    have nd1 : (es1.toList.map txE).Nodup := pk.nodup_iff.mpr (List.nodup_cons.mpr ⟨hnk, nd⟩)
    have m1 : ∀ i, (S i || decide (i = k)) = true ↔ i ∈ es1.toList.map txE := fun i => by
      rw [Bool.or_eq_true, decide_eq_true_eq, hm i, pk.mem_iff, List.mem_cons]
      exact Or.comm
    have hsz : es1.size = n + 1 := by rw [← Array.length_toList, pc.length_eq, List.length_cons, Array.length_toList, hn]
    have hb1 : es1.size < scanBound := by rw [hsz]; exact room
    have hled : w.params.followText "set-order" = true ∨ t1.led = true := hl.imp id fun z => by rw [hl1]; exact z
    have fin : ∀ h', Heap.SameBut a s.heap h' → TxS P w h' a (fun j => S j || decide (j = k)) es1.size → Q true { s with heap := h' } := fun h' sb r => by
      have q := hQ h' sb
      rw [hSk] at q
      rw [hsz] at r
      exact q r
    refine wpAny_bind (hgw _ ?_)
    split
    · refine wpAny_bind ?_
      rw [hashByValue_scannable 8 hsc]
      refine wpAny_pure ?_
      refine tx_store ?_ ho hex hd g1 nd1 m1 hb1 ?_ ?_ ?_ ?_
      · intro b s₁ Q' q; cases b <;> first | exact wpAny_pure q | exact wpAny_rule q
      · first | (split <;> first | exact hf1 | exact SetTable.fits_plain_off hf1) | exact hf1
      · first | (split <;> exact hr1) | exact hr1
      · first | (split <;> exact hled) | exact hled
      · intro h' sb r; dsimp only; exact wpAny_pure (fin h' sb r)
    · refine wpAny_bind (wpAny_pure ?_)
      simp only [↓reduceIte]
      refine tx_store ?_ ho hex hd g1 nd1 m1 hb1 hf1 hr1 hled ?_
      · intro b s₁ Q' q; cases b <;> first | exact wpAny_pure q | exact wpAny_rule q
      · intro h' sb r; dsimp only; exact wpAny_pure (fin h' sb r)

theorem tx_add {k : Str} {u : PySem.Tok} {Q : Value → Shared → Prop} (R : TxS P w s.heap a S n) (room : n + 1 < scanBound)
    (hQ : ∀ h', Heap.SameBut a s.heap h' → TxS P w h' a (fun j => S j || decide (j = k)) (if S k = true then n else n + 1) → Q .none { s with heap := h', toks := s.toks + 1 }) :
    wpAny (model P w) A (call (.builtin "set.add") [.ref a, .str k u]) Q E s := by
  have hS : s.heap.SetOf (PySem.strKind P w) a S n := R.setOf
  refine wpAny_call_entry F.slot_set_add hS.typeIs F.entry_set_add ?_ (F.args_set_add_2 _ _)
  unfold Builtin.«set.add» Builtin.Frozenset.oneOther
  simp only [List.isEmpty_nil, bind_assoc]
  unfold Builtin.Frozenset.addrOf setAdd
  refine wpAny_bind (wpAny_pure ?_)
  try dsimp only
  refine wpAny_bind (wpAny_pure ?_)
  try dsimp only
  refine wpAny_bind ?_
  refine wpAny_holding ?_
  refine wpAny_bind ((PySem.strKind P w).pyHash (strKind_is _ _ _ _) ?_)
  refine tx_add_hashed (s := { s with toks := s.toks + 1 }) R room fun h' sb r => ?_
  show wpAny _ _ (ret Value.none) _ _ _
  exact wpAny_pure ⟨_, rfl, hQ h' sb r⟩
theorem tx_fresh {h : Heap} (P : Program) (w : World) : TxS P w (h.push { cls := .type "set", dict := none, data := .set #[] 0 (.fresh 0 0 (!w.params.followText "set-order")) }) h.objs.size (fun _ => false) 0 :=
  ⟨_, #[], 0, _, Heap.get?_push_size _ rfl, ⟨rfl, rfl, rfl⟩, rfl, (fun e he => by simp at he), (by simp), (fun k => by simp), (by decide), (by rfl), rfl, List.Pairwise.nil, by
    cases w.params.followText "set-order"
    · exact .inr rfl
    · exact .inl rfl⟩
/-- sorted(such a set) -/
theorem tx_sorted {Q : Value → Shared → Prop} (R : TxS P w s.heap a S n) (hh : A.handled = none) (h64 : n < 64)
    (hQ : ∀ s' p (out : Array Value) (c : Nat) (ss : List Str), (∀ b o, s.heap.get? b = some o → s'.heap.get? b = some o) → s'.gens = s.gens → s'.os = s.os → s.heap.objs.size ≤ p →
      s'.heap.get? p = some (seqObj "list" out c) → StrsAre out.toList ss → sortedS ss = true → ss.Nodup → (∀ k, k ∈ ss ↔ S k = true) → ss.length = n → Q (.ref p) s') :
    wpAny (model P w) A (call (.builtin "sorted") [.ref a]) Q E s := by
  obtain ⟨o, es, ep, t, ho, hex, hd, g, nd, hm, hb, hf, hn, hr, hl⟩ := R
  refine Calls.call_function_entry kind_sorted plain_sorted entry_sorted (args_sorted1 _) ?_
  unfold Builtin.«sorted»
  refine wpAny_bind (m := checkCount "sorted" 1 1 _) (wpAny_pure ?_)
  refine wpAny_bind (collect_set (A := A.in1) hh ⟨o, ho, hex.1, hd⟩ hf hb hr hl fun s1 vs k1 hz g1 o1 pm => ?_)
  have hvl : vs.length = n := by rw [pm.length_eq, List.length_map, Array.length_toList]; exact hn
  have hst : ∀ v ∈ vs, ∃ k t, v = Value.str k t := fun v hv => by
    obtain ⟨e, he, q⟩ := List.mem_map.mp (pm.mem_iff.mp hv)
    obtain ⟨k, t, h1, _⟩ := g e he
    exact ⟨k, t, by rw [← q]; exact h1⟩
  have hI : StrsAre vs (vs.map strOf) := strsAre_map vs hst
  have pk : (vs.map strOf).Perm (es.toList.map txE) := by
    have q := pm.map strOf
    rw [List.map_map] at q
    refine q.trans (List.Perm.of_eq (List.map_congr_left fun e he => ?_))
    obtain ⟨k, t, h1, _⟩ := g e he
    show strOf e.2 = txE e
    unfold txE
    rw [h1]
    rfl
  refine wpAny_bind (wpAny_newList ?_ (by rw [hvl, sizeLine_eq]; omega))
  have hoL : (s1.heap.push (seqObj "list" vs.toArray 0)).get? s1.heap.objs.size = some (seqObj "list" vs.toArray 0) := Heap.get?_push_size _ rfl
  refine wpAny_bind (wpAny_holding (wpAny_call_entry slot_list_sort ⟨_, hoL, rfl⟩ entry_list_sort (list_sort_treeK strKind_oneLt hoL hI.keysOf (fun v₁ v₂ rest e => keyKind_strs (by rw [← e]; exact hI)) (by rw [hvl]; exact h64) fun st' hp hs => ⟨_, rfl, ?_⟩) (args_list_sort _)))
  obtain ⟨ss', a1, a2, a3⟩ := sorted_out_str hI hp hs
  obtain ⟨c, hc⟩ := sortedHeap_at (vs := vs) (out := (arrOf st').map (·.2)) hoL
  have pn : ss'.Perm (es.toList.map txE) := a2.trans pk
  refine wpAny_pure ⟨_, rfl, hQ _ s1.heap.objs.size _ c ss' (fun b u e => ?_) g1 o1 hz hc a1 a3 (pn.nodup_iff.mpr nd) (fun k => by rw [pn.mem_iff, ← hm k]) ?_⟩
  · have q := k1 b u e
    have hlt := Heap.lt_size q
    show (sortedHeap (s1.heap.push (seqObj "list" vs.toArray 0)) s1.heap.objs.size vs _).get? b = some u
    rw [sortedHeap_old (Nat.ne_of_lt hlt) (by rw [size_push']; exact Nat.lt_succ_of_lt hlt)]
    exact Heap.get?_push_of_some _ q
  · rw [pn.length_eq, List.length_map, Array.length_toList]; exact hn
end
/-! ### as tracked things -/
/-- the set of texts at a -/
def TxO (P : Program) (w : World) (a : Addr) (S : Str → Bool) (n : Nat) : HO := .ext fun h => TxS P w h a S n
theorem txo_new {w : World} {P : Program} {H : Hp} {h : Heap} {a : Addr} {S : Str → Bool} {n : Nat} (R : TxS P w h a S n) : ObjOk P w H h a (TxO P w a S n) := by
  have ⟨o, _, _, _, ho, _⟩ := R
  exact ⟨R, ⟨o, ho⟩, fun h1 h2 p k => TxS.at p k⟩
section
variable {X : Cx}
theorem txo_get {pins : List (Addr × Obj)} {σ : L2.St} {H : Hp} {s : Shared} {a : Addr} {S : Str → Bool} {n : Nat} (I : Inv X pins σ H s) (ha : H a = some (TxO X.prog X.w a S n)) : TxS X.prog X.w s.heap a S n := (I.hok a _ ha).1
theorem txo_add {pins : List (Addr × Obj)} {σ : L2.St} {H : Hp} {s : Shared} {E : Value → Shared → Prop} {D : Addr} {S : Str → Bool} {n : Nat} {y : Str} {u : PySem.Tok} {Q : Value → Shared → Prop} (I : Inv X pins σ H s) (hD : H D = some (TxO X.prog X.w D S n)) (room : n + 1 < scanBound)
    (h : ∀ s', Inv X pins σ (upd H D (TxO X.prog X.w D (fun j => S j || decide (j = y)) (if S y = true then n else n + 1))) s' → Q .none s') : wpAny (model X.prog X.w) X.A (call (.builtin "set.add") [.ref D, .str y u]) Q E s := by
  refine tx_add (txo_get I hD) room fun h' sb new => ?_
  have he : ∃ u, h'.get? D = some u := by
    have ⟨o, _, _, _, ho, _⟩ := new
    exact ⟨o, ho⟩
  exact h _ (I.write (e := D) (t' := s.toks + 1) (by rw [hD]; trivial) (.inl rfl) (fun b u hb hu => (sb.2 b hb).trans hu) he (txo_new new))
/-- the comprehension of texts, over what wi gives -/
def tScT (P : Program) (w : World) (wi : TI) (g : TG) (tt : TT) (te : TE) (vs : List Nat) : TE := fun σ H Q => wi σ H fun J H1 => ∀ D, H1 D = none → ∃ W : Nat → Nat → Hp → Prop, (∃ m, W 0 m (upd H1 D (TxO P w D (fun _ => false) 0))) ∧ ∀ i m H, W i m H →
  (J.stop i H ∧ Q (.ref D) H) ∨ (J.go i H ∧ ∃ Nx : Hp → Prop, (∀ H', Nx H' → ∃ m', m' < m ∧ W (i + 1) m' H') ∧ ∀ x H', J.yld i H x H' → g x (wipe σ vs) H' fun σ2 H2 => wipe σ2 vs = wipe σ vs ∧ tt σ2 H2 fun b H3 =>
    if b = true then te σ2 H3 fun y H4 => ∃ (c : Str) (S : Str → Bool) (n : Nat), y = .str c ∧ H4 D = some (TxO P w D S n) ∧ n + 1 < scanBound ∧ Nx (upd H4 D (TxO P w D (fun j => S j || decide (j = c)) (if S c = true then n else n + 1))) else Nx H3)
theorem sct_core {pins : List (Addr × Obj)} {s : Shared} {σ : L2.St} {H : Hp} {Q : VK} {elt tg iter : Expr} {ifs : List Expr} {scope : Scope} {own : List (PySem.Str × Nat)} {pos pos' : Pos} {wi : TI} {g : TG} {tt : TT} {te : TE} {use : Option (Value → Sem Unit)} {Qf : Value → Shared → Prop}
    (hc : X.calm = true) (hN : X.N.Nodup) (I : Inv X pins σ H s) (hi : PI X tg iter wi) (ok : BlkOk X.N X.env.scope scope own)
    (hg : ∀ (s : Shared) (H : Hp) (C : Addr) (cl : List (PySem.Str × Addr)) (fp : List Addr), PG (X.blk s H scope (compEnvC scope cl C X.env) fp) tg g) (ht : ∀ (s : Shared) (H : Hp) (C : Addr) (cl : List (PySem.Str × Addr)) (fp : List Addr), PTs (X.blk s H scope (compEnvC scope cl C X.env) fp) ifs tt)
    (he : ∀ (s : Shared) (H : Hp) (C : Addr) (cl : List (PySem.Str × Addr)) (fp : List Addr), PE (X.blk s H scope (compEnvC scope cl C X.env) fp) elt te) (hs : ∀ x, foldedSetIterable iter X.env x = pure x)
    (h : tScT X.prog X.w wi g tt te (own.map (·.2)) σ H Q)
    (hRR : ∀ D C s' m H', Inv X pins σ H' s' → Q (.ref D) H' → s'.heap.Ns C m → FpOk X pins H' C → compPost (model X.prog X.w) X.A X.xe use Qf (.ref D) C (.ok .next) s') :
    wpAny (model X.prog X.w) X.A (comprehension (.SetComp elt [⟨tg, iter, ifs, 0⟩] scope pos) scope X.env pos' (newSet (.type "set")) false (eval iter X.env) use) Qf X.xe s := by
  have hfree : ∀ y ∈ scope.names, y.2 = .free → ∃ c, X.env.cells.lookup y.1 = some c := fun y hy e => by
    rcases ok.free y hy e with k | k
    · exact I.ok.has _ (.inl k)
    · exact I.ok.has _ (.inr k)
  refine wpAny_comprehension_free (use := use) rfl hs (closure_ok hfree) ok.kind (fun y hy e => by rw [ok.uniq y hy, e])
    (thn (hi.run pins s σ H _ I h) fun xv s1 hx => thn hx fun itv s2 h2 => ?_)
  obtain ⟨it, fp, tn, J, H2, e, I2, T, st2, f2, q⟩ := h2
  subst e
  refine PpSet.newSet_ok (newEnv_comp ?_)
  generalize hD : s2.heap.objs.size = D
  have hDn : H2 D = none := I2.hok.fresh (Nat.le_of_eq hD)
  obtain ⟨W, ⟨m0, w0⟩, turn⟩ := q D hDn
  -- the new list
  generalize hs3 : ({ s2 with heap := s2.heap.push { cls := .type "set", dict := none, data := .set #[] 0 (.fresh 0 0 (!X.w.params.followText "set-order")) } } : Shared) = s3
  have I3 : Inv X pins σ (upd H2 D (TxO X.prog X.w D (fun _ => false) 0)) s3 := by
    rw [← hs3]
    refine I2.laid (t' := s2.toks) (fun b o e => Heap.get?_push_of_some _ e) (Nat.le_of_eq hD) ?_
    rw [← hD]
    exact txo_new (tx_fresh X.prog X.w)
  have h3 : s3.heap = s2.heap.push { cls := .type "set", dict := none, data := .set #[] 0 (.fresh 0 0 (!X.w.params.followText "set-order")) } := by rw [← hs3]
  have sz : ∀ b ∈ fp, b < s2.heap.objs.size := fun b hb => by
    obtain ⟨o, e, _⟩ := T.obj _ _ st2 b hb
    exact Heap.lt_size e
  have f3 : ∀ b ∈ fp, FpOk X pins (upd H2 D (TxO X.prog X.w D (fun _ => false) 0)) b ∧ b < s3.heap.objs.size := fun b hb => by
    have hlt := sz b hb
    refine ⟨⟨?_, (f2 b hb).2⟩, by rw [h3, Heap.size_push]; exact Nat.lt_succ_of_lt hlt⟩
    rw [upd_ne (by rw [← hD]; exact Nat.ne_of_lt hlt)]
    exact (f2 b hb).1
  have st3 : tn 0 s3.heap := T.keep _ _ _ st2 fun b _ o e => by rw [h3]; exact Heap.get?_push_of_some _ e
  have I4 := block_start I3 ok hN f3
  have pg := hg s3 (upd H2 D (TxO X.prog X.w D (fun _ => false) 0)) s3.heap.objs.size (cellsFrom (s3.heap.objs.size + 1) scope.names (cloFrom X.env.cells scope.names [])) fp
  have pt := ht s3 (upd H2 D (TxO X.prog X.w D (fun _ => false) 0)) s3.heap.objs.size (cellsFrom (s3.heap.objs.size + 1) scope.names (cloFrom X.env.cells scope.names [])) fp
  have pe := he s3 (upd H2 D (TxO X.prog X.w D (fun _ => false) 0)) s3.heap.objs.size (cellsFrom (s3.heap.objs.size + 1) scope.names (cloFrom X.env.cells scope.names [])) fp
  show codeAny _ _ (.compStart (.SetComp elt [⟨tg, iter, ifs, 0⟩] scope pos) 0 (.ref it) (.ref D) (compEnvC scope (cellsFrom (s3.heap.objs.size + 1) scope.names (cloFrom X.env.cells scope.names [])) s3.heap.objs.size X.env)) (compPost (model X.prog X.w) X.A X.xe use Qf (.ref D) s3.heap.objs.size) { s3 with heap := pushCells (s3.heap.push { cls := .type "dict", data := .dict #[] }) scope.names }
  have nfp : ∀ b ∈ fp, (upd H2 D (TxO X.prog X.w D (fun _ => false) 0)) b = none := fun b hb => (f3 b hb).1.1
  generalize hce : compEnvC scope (cellsFrom (s3.heap.objs.size + 1) scope.names (cloFrom X.env.cells scope.names [])) s3.heap.objs.size X.env = ce at I4 pg pt pe ⊢
  have cL : ce.locals = s3.heap.objs.size := by subst hce; rfl
  generalize hH3 : upd H2 D (TxO X.prog X.w D (fun _ => false) 0) = H3 at I3 I4 pg pt pe w0 nfp f3
  generalize hs4 : ({ s3 with heap := pushCells (s3.heap.push { cls := .type "dict", data := .dict #[] }) scope.names } : Shared) = s4 at I4 ⊢
  have st4 : tn 0 s4.heap := T.keep _ _ _ st3 fun b _ o e => by rw [← hs4]; exact pushCells_keeps _ _ _ _ (Heap.get?_push_of_some _ e)
  have stat : ∀ {σ' : L2.St} {H' : Hp} {s' : Shared}, Inv (X.blk s3 H3 scope ce fp) [] σ' H' s' → (∀ b ∈ fp, H' b = none) → ∀ b ∈ fp, FpOk (X.blk s3 H3 scope ce fp) [] H' b := fun {σ' H' s'} I' hn b hb =>
    ⟨hn b hb, (I'.ok.exf b hb).1, I'.ok.exfs b hb, .inl hb, fun x c e => (I'.ok.exf b hb).2 x c e, fun p hp => absurd (show p ∈ ([] : List (Addr × Obj)) ++ [] from hp) (by simp)⟩
  have loop : codeAny (model X.prog X.w) X.A (.compLoop (.SetComp elt [⟨tg, iter, ifs, 0⟩] scope pos) 0 (.ref it) (.ref D) ce) (compPost (model X.prog X.w) X.A X.xe use Qf (.ref D) s3.heap.objs.size) s4 := by
    refine PpSet.compLoopS_any (fun n s' => ∃ i H', Inv (X.blk s3 H3 scope ce fp) [] (wipe σ (own.map (·.2))) H' s' ∧ tn i s'.heap ∧ (∀ b ∈ fp, H' b = none) ∧ W i n H') ?_ m0 ⟨0, H3, I4, st4, nfp, w0⟩
    rintro n s5 ⟨i, H5, I5, st5, n5, w5⟩
    rcases turn i n H5 w5 with ⟨stop, qq⟩ | ⟨go, Nx, hNx, step⟩
    · have td := T.done (X.blk s3 H3 scope ce fp) rfl rfl rfl hc i [] s5 _ H5 (fun _ _ => False) I5 (stat I5 n5) st5 stop
      refine thnF td fun r s6 ⟨hr, I6⟩ => ?_
      subst hr
      -- back in the def's context
      have I7 : Inv X pins σ H5 s6 := I3.call' (ch := fp) I6.os I6.base I6.hok I6.bare fun b hb => ⟨(f3 b hb).1.2.2.2.1, (f3 b hb).1.2.1, (f3 b hb).1.2.2.2.2.1, (f3 b hb).1.2.2.2.2.2⟩
      have nC : H5 s3.heap.objs.size = none := by
        have z : H5 ce.locals = none := I6.free
        rw [cL] at z
        exact z
      obtain ⟨m, hn, _⟩ := I6.loc
      have hn : s6.heap.Ns ce.locals m := hn
      rw [cL] at hn
      exact hRR D s3.heap.objs.size s6 m H5 I7 qq hn (I3.fpOk (Nat.le_refl _) nC)
    · have ti := T.item (X.blk s3 H3 scope ce fp) rfl rfl rfl hc i [] s5 _ H5 (fun _ _ => False) I5 (stat I5 n5) st5 go
      refine thnF ti fun r s6 ⟨u, hr, h6⟩ => ?_
      subst hr
      refine thnF h6 fun _ s7 ⟨x, H7, I7, r7, y7, st7, n7⟩ => ?_
      have I7' := I7.pinned (stat I7 n7) (T.obj _ _ st7)
      refine thnF (pg.run _ s7 _ H7 x u _ I7' r7 (step x H7 y7)) fun _ s8 ⟨σ8, H8, I8, hw8, q8⟩ => ?_
      refine thnF (pt.run _ s8 σ8 H8 _ I8 q8) fun b s9 ⟨H9, I9, q9⟩ => ?_
      -- the turn's end
      have fin : ∀ {s' : Shared} {H' : Hp}, Inv (X.blk s3 H3 scope ce fp) ([] ++ pinsAt fp s7.heap) σ8 H' s' → Nx H' → ∃ m, m < n ∧ ∃ i H', Inv (X.blk s3 H3 scope ce fp) [] (wipe σ (own.map (·.2))) H' s' ∧ tn i s'.heap ∧ (∀ b ∈ fp, H' b = none) ∧ W i m H' := fun {s' H'} I' nx => by
        obtain ⟨m', hm, w'⟩ := hNx H' nx
        have pin' : ∀ b ∈ fp, ∀ o, s7.heap.get? b = some o → s'.heap.get? b = some o ∧ H' b = none := fun b hb o e =>
          let z := I'.pin (b, o) (List.mem_append_right _ (List.mem_append_right _ (mem_pinsAt hb e)))
          ⟨z.1, z.2.1⟩
        have hl : (wipe σ (own.map (·.2))).length = σ8.length := by rw [← hw8, wipe_length]
        refine ⟨m', hm, i + 1, H', (I'.unpinned (pins := [])).weak hl (fun j v e => ?_), T.keep _ _ _ st7 fun b hb o e => (pin' b hb o e).1, fun b hb => ?_, w'⟩
        · rw [← hw8] at e
          exact (wipe_some e).1
        · obtain ⟨o, e, _⟩ := T.obj _ _ st7 b hb
          exact (pin' b hb o e).2
      cases b with
      | false =>
        simp only [Bool.false_eq_true, if_false] at q9 ⊢
        exact fin I9 q9
      | true =>
        simp only [if_true] at q9 ⊢
        refine thnF (pe.run _ s9 σ8 H9 _ I9 q9) fun z s10 ⟨yv, H10, I10, r10, cb, S0, n0, ey, hD10, hz10, nx⟩ => ?_
        subst ey
        obtain ⟨tk, rfl⟩ : ∃ tk, z = Value.str cb tk := r10
        exact txo_add (X := X.blk s3 H3 scope ce fp) I10 hD10 hz10 fun s11 I11 => fin I11 nx
  exact PpSet.codeAny_compStart_set loop (T.self X.A 0 _ _ _ st4 loop)
theorem pe_scT {elt tg iter : Expr} {ifs : List Expr} {scope : Scope} {own : List (PySem.Str × Nat)} {pos : Pos} {wi : TI} {g : TG} {tt : TT} {te : TE} (hc : X.calm = true) (hN : X.N.Nodup) (hi : PI X tg iter wi) (ok : BlkOk X.N X.env.scope scope own)
    (hg : ∀ (s : Shared) (H : Hp) (C : Addr) (cl : List (PySem.Str × Addr)) (fp : List Addr), PG (X.blk s H scope (compEnvC scope cl C X.env) fp) tg g) (ht : ∀ (s : Shared) (H : Hp) (C : Addr) (cl : List (PySem.Str × Addr)) (fp : List Addr), PTs (X.blk s H scope (compEnvC scope cl C X.env) fp) ifs tt)
    (he : ∀ (s : Shared) (H : Hp) (C : Addr) (cl : List (PySem.Str × Addr)) (fp : List Addr), PE (X.blk s H scope (compEnvC scope cl C X.env) fp) elt te) (hs : ∀ x, foldedSetIterable iter X.env x = pure x := by intro _; rfl) :
    PE X (.SetComp elt [⟨tg, iter, ifs, 0⟩] scope pos) (tScT X.prog X.w wi g tt te (own.map (·.2))) := by
  refine ⟨fun pins s σ H Q I h => ?_⟩
  rw [PpSet.eval_SetComp]
  refine sct_core hc hN I hi ok hg ht he hs h fun D C s' m H' I' q hn ⟨f0, f1, f2, f3, f4, f5⟩ => ⟨m, hn, fun h'' sb => ?_⟩
  exact ⟨.ref D, H', I'.turned (t' := s'.toks) (fun b o hb e => (sb.2 b hb).trans e) f0 f1 f3 f4 f5, rfl, q⟩
/-- sorted of a set of texts, fewer than 64 -/
def rSortTx (P : Program) (w : World) : List V → Hp → VK → Prop := fun vs H Q => ∃ (a : Addr) (S : Str → Bool) (n : Nat), vs = [V.ref a] ∧ H a = some (TxO P w a S n) ∧ n < 64 ∧
  ∀ (ss : List Str) (p : Addr), sortedS ss = true → ss.Nodup → (∀ k, k ∈ ss ↔ S k = true) → ss.length = n → H p = none → Q (.ref p) (upd H p (.lst (ss.map V.str)))
theorem cr_sortTx (hc : X.calm = true) : CallR X (.builtin "sorted") (rSortTx X.prog X.w) := by
  intro pins s σ H vs us Q I r h
  obtain ⟨a, S, n, rfl, ha, h64, q⟩ := h
  rw [Vals.ref1 r]
  refine tx_sorted (txo_get I ha) (I.ok.hd hc) h64 fun s' p out c ss k g o hp hg hi hs hd hm hl => ?_
  have hlen : (ss.map V.str).length ≤ sizeLine := by rw [List.length_map, hl, sizeLine_eq]; omega
  have hn : H p = none := I.hok.fresh hp
  have J : Inv X pins σ (upd H p (.lst (ss.map V.str))) { s with heap := s'.heap, gens := s'.gens, drawn := s'.drawn, toks := s'.toks } :=
    I.call (ch := []) (Un.laid k hp hn) (I.hok.laid k hp ⟨hlen, out.toList, c, vals_of_strs hi, hg⟩) (by rw [g]; exact I.bare) (fun _ z => nomatch z)
  have e : s' = { s with heap := s'.heap, gens := s'.gens, drawn := s'.drawn, toks := s'.toks } := by
    cases s'
    cases s
    cases o
    rfl
  rw [e]
  exact ⟨.ref p, _, J, rfl, q ss p hs hd hm hl hn⟩
end
section
variable {P : Program} {w : World} {J : It} {n : Nat} {G : Hp → Prop} {Y : Nat → Hp → V → Hp → Prop}
/-- over any walk: the set of what is taken, turn by turn -/
theorem sct_it (wk : Walk J n G Y) {g : TG} {tt : TT} {te : TE} {vs : List Nat} {σ : L2.St} {H1 : Hp} {D : Addr} {Qd : Hp → Prop} (Pv : Nat → Hp → Prop) (h0 : Pv 0 (upd H1 D (TxO P w D (fun _ => false) 0))) (hG : ∀ i H, i ≤ n → Pv i H → G H)
    (hs : ∀ i x H H', i < n → Pv i H → Y i H x H' → g x (wipe σ vs) H' fun σ2 H2 => wipe σ2 vs = wipe σ vs ∧ tt σ2 H2 fun b H3 =>
      if b = true then te σ2 H3 fun y H4 => ∃ (c : Str) (S : Str → Bool) (n : Nat), y = .str c ∧ H4 D = some (TxO P w D S n) ∧ n + 1 < scanBound ∧ Pv (i + 1) (upd H4 D (TxO P w D (fun j => S j || decide (j = c)) (if S c = true then n else n + 1))) else Pv (i + 1) H3) (hd : ∀ H, Pv n H → Qd H) :
    ∃ W : Nat → Nat → Hp → Prop, (∃ m, W 0 m (upd H1 D (TxO P w D (fun _ => false) 0))) ∧ ∀ i m H, W i m H →
      (J.stop i H ∧ Qd H) ∨ (J.go i H ∧ ∃ Nx : Hp → Prop, (∀ H', Nx H' → ∃ m', m' < m ∧ W (i + 1) m' H') ∧ ∀ x H', J.yld i H x H' → g x (wipe σ vs) H' fun σ2 H2 => wipe σ2 vs = wipe σ vs ∧ tt σ2 H2 fun b H3 =>
        if b = true then te σ2 H3 fun y H4 => ∃ (c : Str) (S : Str → Bool) (n : Nat), y = .str c ∧ H4 D = some (TxO P w D S n) ∧ n + 1 < scanBound ∧ Nx (upd H4 D (TxO P w D (fun j => S j || decide (j = c)) (if S c = true then n else n + 1))) else Nx H3) := by
  refine ⟨fun i m H => m = n - i ∧ i ≤ n ∧ Pv i H, ⟨n, rfl, Nat.zero_le _, h0⟩, fun i m H ⟨hm, hi, p⟩ => ?_⟩
  rcases Nat.lt_or_eq_of_le hi with hlt | rfl
  · exact .inr ⟨wk.goes i H hlt (hG i H hi p), Pv (i + 1), fun H' p' => ⟨n - (i + 1), by omega, rfl, hlt, p'⟩, fun x H' y => hs i x H H' hlt p (wk.yields i H x H' hlt (hG i H hi p) y)⟩
  · exact .inl ⟨wk.stops H (hG _ H hi p), hd H p⟩
end
end El

set_option Elab.async false
set_option linter.all false
set_option maxRecDepth 100000
set_option maxHeartbeats 4000000
/-! Own words: a written dict of texts, asked for a key that it has. -/
namespace El
open PySem PySem.Spec PyProof.Rows L2
theorem kd_of {K : PySem.W.Frag} {w : World} {a : Addr} {ks : List Str} {z v : Str} {t : PySem.Tok} (h : He.dicW K a = some (He.keysIn w.params ks)) (e : PySem.W.nsIn K a z = some (some (.str v t))) : KDct K w a z (.str v) := by
  obtain ⟨es, n, D⟩ := He.dicW_ok (w := w) h
  exact ⟨es, n, _, D.at_, D.lit, e, ⟨t, rfl⟩⟩
theorem e_xD {X : Cx} {a b : Expr} {ta tb : TE} {pos : Pos} (K : PySem.W.Frag) (w : World) (ha : PE X a ta) (hb : PE X b tb) (hs : PlainIx b := by intro _ _; rfl) (hK : X.K = K := by rfl) (hw : X.w = w := by rfl) : PE X (.Subscript a b pos) (tOp (rIxD K w) ta tb) := by
  subst hK
  subst hw
  exact pe_ix ix_kdict ha hb hs
end El

set_option Elab.async false
set_option linter.all false
set_option maxRecDepth 100000
set_option maxHeartbeats 4000000
/-! Own words: operators of own classes with a text, t[::-1] of a tuple. -/
namespace El
open PySem PySem.Spec PyProof.Rows L2
/-! ### a op z, a of the class at C, z a text -/
section
variable {X : Cx} {CX : CXT} {k : Nat} {C f : Addr} {fd : FuncData} {ps : List Str} {sp : Sp} {E : L2.St → XK} {op : Operator} {a b : Expr} {ta tb : TE} {pos : Pos}
def tTxtS (C : Addr) (sp : Sp) (E : L2.St → XK) (ta tb : TE) : TE := fun σ H Q => ta σ H fun x H1 => tb σ H1 fun y H2 => ∃ a dx fs z, x = .ref a ∧ y = .str z ∧ H2 a = some (.ins C dx fs) ∧ sp [.ref a, .str z] H2 Q (E σ)
theorem run_opS {pins : List (Addr × Obj)} {σ : L2.St} {H : Hp} {s : Shared} {Q : VK} {y a : Addr} {z : Str} {t : PySem.Tok} (c : OpT X.K C f op "str") (F : FnOk X.prog X.w X.K X.mg X.base CX k f fd ps sp) (hr : Room k X.A) (hb : Binds X.K fd ps []) (hx : PassesAt CX X σ (E σ)) (I : Inv X pins σ H s)
    {dx : Addr} {fs : List (Str × V)} (ea : H a = some (.ins C dx fs)) (q : sp [.ref a, .str z] H Q (E σ)) : wpAny (model X.prog X.w) X.A (binaryOp op (.ref a) (.str z t)) (EP X pins σ Q) X.xe s := by
  obtain ⟨m, fr⟩ := I.fr
  obtain ⟨mA, O, _⟩ := ins_get I.hok ea
  obtain ⟨od, J, _⟩ := O.look
  obtain ⟨rc, hr1, hr2⟩ := c.hr
  obtain ⟨fo, h1⟩ := c.h1
  obtain ⟨ro, h2⟩ := c.h2
  refine PySem.W.ksp_binT fr I.ok.mod.kin J (T := "str") rfl c.c.sf c.c.at_ c.c.fn hr1 hr2 h1 h2 c.sub ?_
  exact wpAny_mono (run_fnS (us := [.ref a, .str z t]) (vs := [.ref a, .str z]) F hr hb hx I (.cons rfl (.cons ⟨t, rfl⟩ .nil)) q) (fun u' s' h' => cmpBack_of h') fun _ _ z => z
theorem pe_bopTS (c : OpT X.K C f op "str") (F : FnOk X.prog X.w X.K X.mg X.base CX k f fd ps sp) (hr : Room k X.A) (hb : Binds X.K fd ps []) (hx : ∀ σ, PassesAt CX X σ (E σ)) (ha : PE X a ta) (hb2 : PE X b tb) : PE X (.BinOp a op b pos) (tTxtS C sp E ta tb) := by
  refine ⟨fun pins s σ H Q I h => wpAny_BinOp (thn (ha.run pins s σ H _ I h) fun v s1 ⟨x, H1, I1, rx, q1⟩ => thn (hb2.run pins s1 σ H1 _ I1 q1) fun u s2 ⟨y, H2, I2, ry, a, dx, fs, z, ex, ey, ea, q⟩ => ?_)⟩
  subst ex ey
  obtain rfl : v = Value.ref a := rx
  obtain ⟨t, rfl⟩ := ry
  exact run_opS (y := a) c F hr hb (hx σ) I2 ea q
end
section
variable {X : Cx} {CX : CXT} {k : Nat} {C f : Addr} {fd : FuncData} {ps : List Str} {sp : Sp} {E : XK} {op : Operator} {a b : Expr} {ta tb : TE} {pos : Pos}
theorem pe_bopT (c : OpT X.K C f op "str") (F : FnOk X.prog X.w X.K X.mg X.base CX k f fd ps sp) (hr : Room k X.A) (hb : Binds X.K fd ps []) (hx : Passes CX X E) (ha : PE X a ta) (hb2 : PE X b tb) : PE X (.BinOp a op b pos) (tTxtS C sp (fun _ => E) ta tb) :=
  pe_bopTS c F hr hb (fun σ pins H s e s' I h => hx pins σ H s e s' I h) ha hb2
end
/-! ### z + a, z a text: __radd__ -/
structure RadC (K : PySem.W.Frag) (C f : Addr) : Prop where
  sf : PySem.W.selfFirst K C = true
  add : ∃ g : Addr, PySem.W.findIn K (.ref C) (PySem.dunder "add") = some (some (.ref g))
  at_ : PySem.W.findIn K (.ref C) (PySem.dunderR "add") = some (some (.ref f))
  fn : PySem.W.isFn K (.ref f) = true
section
open PySem.W PySem.Calls
variable {prog : Program} {w : World} {A : Around} {E : Value → Shared → Prop} {s : Shared} {K : PySem.W.Frag} {x C f : Addr} {ox : Obj} {od : Option Obj}
theorem rad_run {z : Str} {t : PySem.Tok} {Q : Value → Shared → Prop} (X : K.In s.heap) (I : PySem.W.InstAt s.heap x ox C od) (c : RadC K C f)
    (h : wpAny (model prog w) A (call (.ref f) [.ref x, .str z t]) (PySem.W.CmpBack Q) E s) : wpAny (model prog w) A (binaryOp .Add (.str z t) (.ref x)) Q E s := by
  obtain ⟨cd, rest, hcd, hm⟩ := PySem.W.ksp_first c.sf
  obtain ⟨gm, hg⟩ := c.add
  have one := PySem.W.ksp_try X I c.at_ c.fn h
  obtain ⟨hh, g, d, tt, os⟩ := s
  have L1 : Looks (model prog w) hh (typeOf (.str z t)) (.type "str") := Looks.of_pure rfl
  have L2 : Looks (model prog w) hh (typeOf (.ref x)) (.ref C) := I.type
  have L3 : Looks (model prog w) hh (fillsNumberSlot (.type "str") "add") false := Looks.of_pure PySem.noFill_str_add
  have L4 : Looks (model prog w) hh (fillsNumberSlot (.ref C) "add") true := fills_K X hcd hm hg
  have hne : (Value.type "str" == Value.ref C) = false := Bool.eq_false_iff.mpr fun q => by cases beq_iff_eq.mp q
  have hi : Operator.Add.info = ("+", "add") := rfl
  simp only [binaryOp, hi]
  refine wpAny_holding (wpAny_bind ?_)
  unfold binaryOp1
  refine wpAny_bind (L1.at (wpAny_bind (L2.at (wpAny_bind (L3.at ?_)))))
  simp only [hne, Bool.false_eq_true, if_false]
  ksp_lk
  refine wpAny_mono one (fun r s' hr' => ?_) fun _ _ e => e
  obtain ⟨v, rfl, hq⟩ := hr'
  first
    | exact wpAny_bind (wpAny_rule (wpAny_pure (wpAny_pure hq)))
    | (ksp_lk; exact hq)
end
section
variable {X : Cx} {CX : CXT} {k : Nat} {C f : Addr} {fd : FuncData} {ps : List Str} {sp : Sp} {E : L2.St → XK} {a b : Expr} {ta tb : TE} {pos : Pos}
def tRadS (C : Addr) (sp : Sp) (E : L2.St → XK) (ta tb : TE) : TE := fun σ H Q => ta σ H fun x H1 => tb σ H1 fun y H2 => ∃ a dx fs z, x = .str z ∧ y = .ref a ∧ H2 a = some (.ins C dx fs) ∧ sp [.ref a, .str z] H2 Q (E σ)
theorem pe_radS (c : RadC X.K C f) (F : FnOk X.prog X.w X.K X.mg X.base CX k f fd ps sp) (hr : Room k X.A) (hb : Binds X.K fd ps []) (hx : ∀ σ, PassesAt CX X σ (E σ)) (ha : PE X a ta) (hb2 : PE X b tb) : PE X (.BinOp a .Add b pos) (tRadS C sp E ta tb) := by
  refine ⟨fun pins s σ H Q I h => wpAny_BinOp (thn (ha.run pins s σ H _ I h) fun v s1 ⟨x, H1, I1, rx, q1⟩ => thn (hb2.run pins s1 σ H1 _ I1 q1) fun u s2 ⟨y, H2, I2, ry, a, dx, fs, z, ex, ey, ea, q⟩ => ?_)⟩
  subst ex ey
  obtain ⟨t, rfl⟩ := rx
  obtain rfl : u = Value.ref a := ry
  obtain ⟨mA, O, _⟩ := ins_get I2.hok ea
  obtain ⟨od, J, _⟩ := O.look
  refine rad_run I2.kIn J c ?_
  exact wpAny_mono (run_fnS (us := [.ref a, .str z t]) (vs := [.ref a, .str z]) F hr hb (hx σ) I2 (.cons rfl (.cons ⟨t, rfl⟩ .nil)) q) (fun u' s' h' => cmpBack_of h') fun _ _ z => z
end
/-! ### a += z -/
structure InpC (K : PySem.W.Frag) (C f : Addr) (op : Operator) : Prop where
  sf : PySem.W.selfFirst K C = true
  at_ : PySem.W.findIn K (.ref C) (PySem.dunderI op.info.2) = some (some (.ref f))
  fn : PySem.W.isFn K (.ref f) = true
section
variable {X : Cx} {CX : CXT} {k : Nat} {C f : Addr} {fd : FuncData} {ps : List Str} {sp : Sp} {E : L2.St → XK} {op : Operator} {x : Str} {i : Nat} {e : Expr} {te : TE} {pos pos' : Pos}
/-- a name's own object op= a text, what it lets out being taken where it stands -/
def tAugTS (i : Nat) (C : Addr) (sp : Sp) (E : L2.St → XK) (te : TE) : TS := fun D σ H => ∃ a, σ[i]? = some (some (V.ref a)) ∧ te σ H fun y H1 => ∃ dx fs z, y = .str z ∧ H1 a = some (.ins C dx fs) ∧ sp [.ref a, .str z] H1 (fun v H2 => D.nx (σ.set i (some v)) H2) (E σ)
theorem ps_augTS (hN : X.N.Nodup) (hi : X.N[i]? = some x) (hx0 : Loc X.env.scope x) (c : InpC X.K C f op) (F : FnOk X.prog X.w X.K X.mg X.base CX k f fd ps sp) (hr : Room k X.A) (hb : Binds X.K fd ps []) (hx : ∀ σ, PassesAt CX X σ (E σ)) (he : PE X e te)
    (hf : X.fn x = true ∨ X.env.scope.names.lookup x = some .local := by first | exact .inl rfl | exact .inr rfl | assumption) : PS X (.AugAssign (.Name x pos') op e pos) (tAugTS i C sp E te) := by
  refine ⟨fun pins s σ H D I h => ?_⟩
  obtain ⟨a, e1, h⟩ := h
  obtain ⟨m, hn, hl⟩ := I.loc
  have vis : Vis X.env.scope x := hx0.elim (fun k => .inl k) fun k => .inr (.inl k)
  obtain ⟨u, r, l⟩ := hl i x _ hi e1 vis
  obtain rfl : u = Value.ref a := r
  refine wpAny_AugAssign_Name ?_
  have go : wpAny (model X.prog X.w) X.A (eval e X.env) (fun w s₂ => wpAny (model X.prog X.w) X.A (inplaceOp op (.ref a) w) (fun r s₃ => wpAny (model X.prog X.w) X.A (storeName X.env x r) (fun _ => SP X pins D .next) X.xe s₃) X.xe s₂) X.xe s := by
    refine thn (he.run pins s σ H _ I h) fun w s1 ⟨y, H1, I1, r1, dx, fs, z, ey, ea, q⟩ => ?_
    subst ey
    obtain ⟨t, rfl⟩ := r1
    obtain ⟨m1, fr⟩ := I1.fr
    obtain ⟨mA, O, _⟩ := ins_get I1.hok ea
    obtain ⟨od, J, _⟩ := O.look
    have run := PySem.W.ksp_inplace (b := .str z t) fr I1.ok.mod.kin J c.sf c.at_ c.fn (wpAny_mono (run_fnS (us := [.ref a, .str z t]) (vs := [.ref a, .str z]) F hr hb (hx σ) I1 (.cons rfl (.cons ⟨t, rfl⟩ .nil)) q) (fun u' s' h' => cmpBack_of h') fun _ _ z => z)
    exact thn run fun z s2 ⟨zv, H2, I2, r2, q2⟩ => store_ok I2 hN hi hx0 r2 (fun s3 I3 => ⟨_, H2, I3, q2⟩) hf
  rcases l with ⟨hk, hm⟩ | ⟨hk, c, hc, hcell⟩
  · exact wpAny_loadName_local I.ok.kind hk hn hm go
  · have no : ∀ q : NameKind, X.env.scope.names.lookup x = some .free → X.env.scope.names.lookup x = some q → q = .free := fun q h1 h2 => (Option.some.inj (h1.symm.trans h2)).symm
    rcases hk with hk | hk
    · exact wpAny_loadName_cell I.ok.kind hk hc hcell go
    · rcases hx0 with k | k
      · exact nomatch no _ hk k
      · exact nomatch no _ hk k
end
/-! ### t[::-1] -/
section
variable {prog : Program} {w : World} {A : Around} {E : Value → Shared → Prop} {s : Shared}
theorem adjust_rev (n : Nat) : Builtin.Slice.sliceAdjust none none (-1) (n : Int) = ((n : Int) - 1, -1) := rfl
theorem places_rev (n : Nat) : Builtin.Slice.slicePlaces ((n : Int) - 1) (-1) (-1) = n := by
  unfold Builtin.Slice.slicePlaces
  rw [if_neg (by decide)]
  by_cases h : (n : Int) - 1 > -1
  · rw [if_pos h]
    have : ((n : Int) - 1 - -1 - 1) / (- -1) = (n : Int) - 1 := by
      rw [show (- -1 : Int) = 1 by decide, Int.ediv_one]
      omega
    rw [this]
    omega
  · rw [if_neg h]
    omega
theorem fm_congr {f g : Nat → Option Value} : ∀ {l : List Nat}, (∀ x ∈ l, f x = g x) → l.filterMap f = l.filterMap g
  | [], _ => rfl
  | y :: r, h => by
    have h1 := h y List.mem_cons_self
    have h2 := fm_congr (l := r) fun x hx => h x (List.mem_cons_of_mem _ hx)
    cases e : g y with
    | none => rw [List.filterMap_cons_none (h1.trans e), List.filterMap_cons_none e, h2]
    | some v => rw [List.filterMap_cons_some (h1.trans e), List.filterMap_cons_some e, h2]
theorem pick_rev (xs : Array Value) : ((List.range xs.size).filterMap fun (k : Nat) => xs[((xs.size : Int) - 1 + (k : Int) * -1).toNat]?).toArray = xs.toList.reverse.toArray := by
  have e : ∀ k ∈ List.range xs.size, (fun (k : Nat) => xs[((xs.size : Int) - 1 + (k : Int) * -1).toNat]?) k = (xs.toList.reverse)[k]? := fun k hk => by
    have hk := List.mem_range.mp hk
    have e1 : ((xs.size : Int) - 1 + (k : Int) * -1).toNat = xs.size - 1 - k := by omega
    show xs[((xs.size : Int) - 1 + (k : Int) * -1).toNat]? = _
    rw [e1, List.getElem?_reverse (by simpa using hk), Array.getElem?_toList, Array.length_toList]
  rw [fm_congr e]
  congr 1
  have all : ∀ l : List Value, (List.range l.length).filterMap (fun k => l[k]?) = l := fun l => by
    induction l with
    | nil => rfl
    | cons y r ih =>
      rw [List.length_cons, List.range_succ_eq_map, List.filterMap_cons_some (f := fun k => (y :: r)[k]?) (b := y) rfl, List.filterMap_map]
      exact congrArg (y :: ·) ih
  have := all xs.toList.reverse
  rw [List.length_reverse, Array.length_toList] at this
  exact this
theorem applied_rev {sl : Addr} {vs : Value} {n : Nat} {Q : Int × Int × Nat → Shared → Prop} (hs : s.heap.IsSliceOf sl .none .none vs) (pv : IsPart vs (some (-1))) (h : Q ((n : Int) - 1, -1, n) s) : wpAny (model prog w) A (Builtin.Slice.sliceApplied (.ref sl) (pure (n : Int))) Q E s := by
  obtain ⟨os, hos, hcs, hds⟩ := id hs
  unfold Builtin.Slice.sliceApplied Builtin.Slice.sliceFields
  refine wpAny_bind (wpAny_bind (wpAny_field hos hds (x := .none) rfl (wpAny_bind (wpAny_field hos hds (x := .none) rfl (wpAny_bind (wpAny_field hos hds (x := vs) rfl (wpAny_pure ?_)))))))
  refine wpAny_bind (HT.slicePart_ pv ?_)
  show wpAny _ _ (if ((-1 : Int) == 0) = true then _ else _) _ _ s
  rw [if_neg (by decide)]
  refine wpAny_bind (slicePart_none (wpAny_bind (slicePart_none (wpAny_bind (wpAny_pure ?_)))))
  show wpAny _ _ (pure ((n : Int) - 1, (-1 : Int), Builtin.Slice.slicePlaces ((n : Int) - 1) (-1) (-1))) _ _ s
  rw [places_rev]
  exact wpAny_pure h
theorem getItem_rev {t sl : Addr} {items : Array Value} {vs : Value} {Q : Value → Shared → Prop} (ht : IsTup s.heap t items) (hs : s.heap.IsSliceOf sl .none .none vs) (pv : IsPart vs (some (-1)))
    (h : Q (.ref s.heap.objs.size) { s with heap := s.heap.push { cls := .type "tuple", data := .seq items.toList.reverse.toArray } }) (hsz : items.size ≤ sizeLine) : wpAny (model prog w) A (getItem (.ref t) (.ref sl)) Q E s := by
  have fits : sizeOk (.seq items.toList.reverse.toArray) := by
    show items.toList.reverse.toArray.size ≤ sizeLine
    rw [List.size_toArray, List.length_reverse, Array.length_toList]
    exact hsz
  have hTs : s.TypeIs (.ref sl) "slice" := by obtain ⟨os, hos, hcs, _⟩ := hs; exact ⟨os, hos, hcs⟩
  unfold getItem
  try with_reducible refine wpAny_holding ?_
  first | refine wpAny_bind (wpAny_pure ?_) | skip
  refine wpAny_bind (wpAny_sequenceKey ht.typeIs (by decide) ?_)
  refine wpAny_bind (wpAny_callSpecial?_slot (name := Str.ofString "__getitem__") ht.typeIs PyProof.Rows.slot_tuple_getitem
    (wpAny_call_entry PyProof.Rows.slot_tuple_getitem ht.typeIs entry_tuple_getitem ?_ (args_tuple_getitem _ _)))
  refine wpAny_bind (m := Builtin.Tuple.tupleItemsOf (.ref t)) (tupleItemsOf_ ht (wpAny_bind (wpAny_typeOf hTs ?_)))
  rw [if_pos (by decide)]
  refine wpAny_bind (applied_rev hs pv ?_)
  show wpAny _ _ (if (((items.size : Int) - 1) == 0 && (-1 : Int) == 1 && items.size == items.size) = true then _ else _) _ _ s
  rw [if_neg (by rw [show ((-1 : Int) == 1) = false from rfl, Bool.and_false, Bool.false_and]; decide), pick_rev]
  first
    | exact wpAny_bind (m := Builtin.Tuple.tupleExact _) (wpAny_newObj_type (wpAny_pure ⟨_, rfl, wpAny_pure h⟩) fits)
    | exact wpAny_bind (wpAny_bind (m := Builtin.Tuple.tupleExact _) (wpAny_newObj_type (wpAny_pure (wpAny_pure ⟨_, rfl, wpAny_pure h⟩)) fits))
    | exact wpAny_bind (wpAny_bind (m := Builtin.Tuple.tupleExact _) (wpAny_newObj_type (wpAny_pure ⟨_, rfl, wpAny_pure h⟩) fits))
end
/-- t[::-1] -/
def tRevT (K : PySem.W.Frag) (te : TE) : TE := fun σ H Q => te σ H fun x H1 => ∃ a xs, x = .ref a ∧ SqT K H1 a xs ∧ ∀ p, H1 p = none → Q (.ref p) (upd H1 p (.tup xs.reverse))
theorem pe_revT {X : Cx} {e : Expr} {te : TE} {k : Nat} {p1 p2 p3 pos : Pos} (he : PE X e te) : PE X (.Subscript e (.Slice none none (some (.UnaryOp .USub (.Constant (.int 1) k p1) p2)) p3) pos) (tRevT X.K te) := by
  refine ⟨fun pins s σ H Q I h => Subscript_ (thn (he.run pins s σ H _ I h) fun v s1 ⟨x, H1, I1, r1, a, xs, ex, hx, q⟩ => ?_)⟩
  subst ex
  obtain rfl : v = Value.ref a := r1
  have step : PO X (some (.UnaryOp .USub (.Constant (.int 1) k p1) p2)) (tPart (tUn (rU fun i => .int (-i)) (tC (.int 1)))) := po_some (pe_un un_neg pe_int)
  refine wpAny_Slice (thn (po_none.run pins s1 σ H1 (fun o H2 => o = none ∧ H2 = H1) I1 ⟨rfl, rfl⟩) fun vl s2 ⟨l, H2, I2, pl, el, e2⟩ => ?_)
  subst el e2
  refine thn (po_none.run pins s2 σ H2 (fun o H3 => o = none ∧ H3 = H2) I2 ⟨rfl, rfl⟩) fun vu s3 ⟨u, H3, I3, pu, eu, e3⟩ => ?_
  subst eu e3
  refine thn (step.run pins s3 σ H3 (fun o H4 => o = some (-1) ∧ H4 = H3) I3 ⟨1, rfl, -1, rfl, rfl, rfl⟩) fun vs s4 ⟨o, H4, I4, pv, eo, e4⟩ => ?_
  subst eo e4
  obtain rfl : vl = Value.none := by cases pl; rfl
  obtain rfl : vu = Value.none := by cases pu; rfl
  have I5 : Inv X pins σ H4 { s4 with heap := s4.heap.push { cls := .type "slice", data := .fields #[.none, .none, vs] } } := I4.kept (t' := s4.toks) fun b ob q => Heap.get?_push_of_some _ q
  obtain ⟨its, r, ht, hz⟩ := I5.tuple hx
  have hlen := r.length
  show wpAny (model X.prog X.w) X.A (subscriptTail e (.Slice none none (some (.UnaryOp .USub (.Constant (.int 1) k p1) p2)) p3) (.ref a) (.ref s4.heap.objs.size)) (EP X pins σ Q) X.xe { s4 with heap := s4.heap.push { cls := .type "slice", data := .fields #[.none, .none, vs] } }
  refine tail_any (ops := [.ref a, .ref s4.heap.objs.size]) ht.typeIs PyProof.Rows.slot_tuple_getitem.lookup ?_ (by with_unfolding_all rfl)
  refine getItem_rev ht (Heap.IsSliceOf.new _ .none .none vs) pv ?_ (by rw [List.size_toArray, ← hlen]; exact hz)
  refine ⟨.ref _, _, I5.laid (t' := s4.toks) (o := .tup xs.reverse) (fun b ob q => Heap.get?_push_of_some _ q) (Nat.le_refl _) ?_, rfl, q _ (I5.hok.fresh (Nat.le_refl _))⟩
  exact ⟨by rw [List.length_reverse]; exact hz, _, r.reverse, IsTup.new _ _⟩
/-! ### defs of own classes, ready to be called -/
structure CalT (P : Program) (w : World) (K : PySem.W.Frag) (mg : Str → Option Value) (base : Heap) (CX : CXT) (k : Nat) (C : Addr) (op : Operator) (f : Addr) (fd : FuncData) (ps : List Str) (sp : Sp) : Prop extends CalB P w K mg base CX k f fd ps sp where
  ot : OpT K C f op "str"
structure CalRad (P : Program) (w : World) (K : PySem.W.Frag) (mg : Str → Option Value) (base : Heap) (CX : CXT) (k : Nat) (C f : Addr) (fd : FuncData) (ps : List Str) (sp : Sp) : Prop extends CalB P w K mg base CX k f fd ps sp where
  ra : RadC K C f
structure CalInp (P : Program) (w : World) (K : PySem.W.Frag) (mg : Str → Option Value) (base : Heap) (CX : CXT) (k : Nat) (C : Addr) (op : Operator) (f : Addr) (fd : FuncData) (ps : List Str) (sp : Sp) : Prop extends CalB P w K mg base CX k f fd ps sp where
  ip : InpC K C f op
structure CalInv (P : Program) (w : World) (K : PySem.W.Frag) (mg : Str → Option Value) (base : Heap) (CX : CXT) (k : Nat) (C f : Addr) (fd : FuncData) (ps : List Str) (sp : Sp) : Prop extends CalB P w K mg base CX k f fd ps sp where
  iv : InvC K C f
/-- one or the other reading of the same expression -/
def tEither (t1 t2 : TE) : TE := fun σ H Q => t1 σ H Q ∨ t2 σ H Q
theorem pe_either {X : Cx} {e : Expr} {t1 t2 : TE} (h1 : PE X e t1) (h2 : PE X e t2) : PE X e (tEither t1 t2) := ⟨fun pins s σ H Q I h => h.elim (h1.run pins s σ H Q I) (h2.run pins s σ H Q I)⟩
/-- what isinstance asks of an own class -/
structure IsC (K : PySem.W.Frag) (C : Addr) : Prop where
  ha : PySem.W.findIn K (.ref C) "__class__" = some (some (.builtin "object.__class__"))
  hn : PySem.W.specialIn K (.builtin "object.__class__") "__get__" = some (some (.builtin "getset_descriptor.__get__"))
  tk : PySem.W.takesIn K (.builtin "object.__class__") = some true
  hm : PySem.W.mroIn K C (.type "object") = some true
theorem ty_ins {K : PySem.W.Frag} {H : Hp} {a C dx : Addr} {fs : List (Str × V)} (e : H a = some (.ins C dx fs)) (cl : Cls K C) (i : IsC K C) : TyX K H (.ref a) (.ref C) := .base (.ins e cl i.ha i.hn i.tk i.hm)
theorem kit_self {K : PySem.W.Frag} {C : Addr} : PySem.W.kitOne K (.ref C) (.ref C) = some true := by
  unfold PySem.W.kitOne
  rw [if_pos (beq_iff_eq.mpr rfl)]
end El

set_option Elab.async false
set_option linter.all false
set_option maxRecDepth 100000
set_option maxHeartbeats 4000000
namespace K03
open PySem PySem.Spec PyProof.Rows L2 El NdefX
def topS (i : Nat) : Stmt := PySem.Challenge.pw_elseput_k03_operators_on_conditions.main.body.getD i (.Pass ⟨0, 0, 0, 0⟩)
abbrev s_is_name : Stmt := topS 17
theorem sc_is_name : FnScope ["text", "letter"] ["text"] (defScope s_is_name) := ⟨rfl, rfl, rfl, by decide +kernel, rfl, by decide +kernel, by decide +kernel⟩

abbrev s_in_bound : Stmt := topS 23
theorem sc_in_bound : FnScope ["value"] ["value"] (defScope s_in_bound) := ⟨rfl, rfl, rfl, by decide +kernel, rfl, by decide +kernel, by decide +kernel⟩

abbrev s_check_name : Stmt := topS 24
theorem sc_check_name : FnScope ["text"] ["text"] (defScope s_check_name) := ⟨rfl, rfl, rfl, by decide +kernel, rfl, by decide +kernel, by decide +kernel⟩

abbrev s_check_number : Stmt := topS 25
theorem sc_check_number : FnScope ["value"] ["value"] (defScope s_check_number) := ⟨rfl, rfl, rfl, by decide +kernel, rfl, by decide +kernel, by decide +kernel⟩

abbrev s_comparisons : Stmt := topS 36
theorem sc_comparisons : FnScope ["tree", "branch", "part"] ["tree"] (defScope s_comparisons) := ⟨rfl, rfl, rfl, by decide +kernel, rfl, by decide +kernel, by decide +kernel⟩

abbrev s_joined : Stmt := topS 37
theorem sc_joined : FnScope ["word", "left", "right", "tree"] ["word", "left", "right"] (defScope s_joined) := ⟨rfl, rfl, rfl, by decide +kernel, rfl, by decide +kernel, by decide +kernel⟩

abbrev s_joined_tree : Stmt := topS 38
theorem sc_joined_tree : FnScope ["word", "left", "right", "deciding", "idle"] ["word", "left", "right"] (defScope s_joined_tree) := ⟨rfl, rfl, rfl, by decide +kernel, rfl, by decide +kernel, by decide +kernel⟩

abbrev s_opposite : Stmt := topS 39
theorem sc_opposite : FnScope ["tree", "word"] ["tree"] (defScope s_opposite) := ⟨rfl, rfl, rfl, by decide +kernel, rfl, by decide +kernel, by decide +kernel⟩

abbrev s__law_state : Stmt := topS 50
theorem sc__law_state : FnScope ["_law_script"] ["_law_script"] (defScope s__law_state) := ⟨rfl, rfl, rfl, by decide +kernel, rfl, by decide +kernel, by decide +kernel⟩

abbrev s__law_draw : Stmt := topS 51
theorem sc__law_draw : FnScope ["_law_state_here", "_law_many", "_law_first", "_law_second", "_law_third", "_law_digit"] ["_law_state_here", "_law_many"] (defScope s__law_draw) := ⟨rfl, rfl, rfl, by decide +kernel, rfl, by decide +kernel, by decide +kernel⟩

abbrev s__law_pick : Stmt := topS 52
theorem sc__law_pick : FnScope ["_law_state_here", "_law_row"] ["_law_state_here", "_law_row"] (defScope s__law_pick) := ⟨rfl, rfl, rfl, by decide +kernel, rfl, by decide +kernel, by decide +kernel⟩

abbrev s__law_number : Stmt := topS 53
theorem sc__law_number : FnScope ["_law_state_here", "_law_kind"] ["_law_state_here"] (defScope s__law_number) := ⟨rfl, rfl, rfl, by decide +kernel, rfl, by decide +kernel, by decide +kernel⟩

abbrev s__law_constant : Stmt := topS 54
theorem sc__law_constant : FnScope ["_law_state_here"] ["_law_state_here"] (defScope s__law_constant) := ⟨rfl, rfl, rfl, by decide +kernel, rfl, by decide +kernel, by decide +kernel⟩

abbrev s__law_names : Stmt := topS 55
theorem sc__law_names : FnScope ["_law_state_here", "_law_many", "_law_letters", "_law_style", "_law_shift", "_law_code", "_law_spot", "_law_base", "_law_k", "_law_reserved", "_law_result", "_law_word"] ["_law_state_here", "_law_many"] (defScope s__law_names) := ⟨rfl, rfl, rfl, by decide +kernel, rfl, by decide +kernel, by decide +kernel⟩

abbrev s__law_is_int : Stmt := topS 56
theorem sc__law_is_int : FnScope ["_law_thing"] ["_law_thing"] (defScope s__law_is_int) := ⟨rfl, rfl, rfl, by decide +kernel, rfl, by decide +kernel, by decide +kernel⟩

abbrev s__law_same : Stmt := topS 57
theorem sc__law_same : FnScope ["_law_actual", "_law_due", "_law_k", "_law_key"] ["_law_actual", "_law_due"] (defScope s__law_same) := ⟨rfl, rfl, rfl, by decide +kernel, rfl, by decide +kernel, by decide +kernel⟩

abbrev s__law_sorted : Stmt := topS 58
theorem sc__law_sorted : FnScope ["_law_row", "_law_result", "_law_item", "_law_at", "_law_k"] ["_law_row"] (defScope s__law_sorted) := ⟨rfl, rfl, rfl, by decide +kernel, rfl, by decide +kernel, by decide +kernel⟩

abbrev s__law_compared : Stmt := topS 59
theorem sc__law_compared : FnScope ["_law_tree"] ["_law_tree"] (defScope s__law_compared) := ⟨rfl, rfl, rfl, by decide +kernel, rfl, by decide +kernel, by decide +kernel⟩

abbrev s__law_condition : Stmt := topS 60
theorem sc__law_condition : FnScope ["_law_tree"] ["_law_tree"] (defScope s__law_condition) := ⟨rfl, rfl, rfl, by decide +kernel, rfl, by decide +kernel, by decide +kernel⟩

abbrev s__law_leaves : Stmt := topS 61
theorem sc__law_leaves : FnScope ["_law_state_here", "_law_fields", "_law_many", "_law_result", "_law_k", "_law_sign"] ["_law_state_here", "_law_fields", "_law_many"] (defScope s__law_leaves) := ⟨rfl, rfl, rfl, by decide +kernel, rfl, by decide +kernel, by decide +kernel⟩

abbrev s__law_grown : Stmt := topS 62
theorem sc__law_grown : FnScope ["_law_state_here", "_law_leaves_here", "_law_parts", "_law_k", "_law_at", "_law_word"] ["_law_state_here", "_law_leaves_here"] (defScope s__law_grown) := ⟨rfl, rfl, rfl, by decide +kernel, rfl, by decide +kernel, by decide +kernel⟩

abbrev s__law_opposite : Stmt := topS 63
theorem sc__law_opposite : FnScope ["_law_tree", "_law_word", "_law_signs", "_law_turned"] ["_law_tree"] (defScope s__law_opposite) := ⟨rfl, rfl, rfl, by decide +kernel, rfl, by decide +kernel, by decide +kernel⟩

abbrev s__law_field_names : Stmt := topS 64
theorem sc__law_field_names : FnScope ["_law_tree", "_law_found", "_law_pair"] ["_law_tree"] (defScope s__law_field_names) := ⟨rfl, rfl, rfl, by decide +kernel, rfl, by decide +kernel, by decide +kernel⟩

abbrev s__law_joined_due : Stmt := topS 65
theorem sc__law_joined_due : FnScope ["_law_word", "_law_left", "_law_right", "_law_whole", "_law_empty"] ["_law_word", "_law_left", "_law_right"] (defScope s__law_joined_due) := ⟨rfl, rfl, rfl, by decide +kernel, rfl, by decide +kernel, by decide +kernel⟩

abbrev s__law_do : Stmt := topS 66
theorem sc__law_do : FnScope ["_law_word", "_law_left", "_law_right", "e"] ["_law_word", "_law_left", "_law_right"] (defScope s__law_do) := ⟨rfl, rfl, rfl, by decide +kernel, rfl, by decide +kernel, by decide +kernel⟩

abbrev s__law_is : Stmt := topS 67
theorem sc__law_is : FnScope ["_law_made", "_law_tree", "_law_turned"] ["_law_made", "_law_tree"] (defScope s__law_is) := ⟨rfl, rfl, rfl, by decide +kernel, rfl, by decide +kernel, by decide +kernel⟩

abbrev s_law : Stmt := topS 68
theorem sc_law : FnScope ["_law_script", "_law_state_here", "_law_fields", "_law_many", "_law_more", "_law_trees", "_law_made", "_law_i", "_law_j", "_law_tree", "_law_word"] ["_law_script"] (defScope s_law) := ⟨rfl, rfl, rfl, by decide +kernel, rfl, by decide +kernel, by decide +kernel⟩

abbrev s_Condition___init__ : Stmt := mthS (topS 35) 1
theorem sc_Condition___init__ : FnScope ["self", "tree", "part"] ["self", "tree"] (defScope s_Condition___init__) := ⟨rfl, rfl, rfl, by decide +kernel, rfl, by decide +kernel, by decide +kernel⟩

abbrev s_Condition_always : Stmt := mthS (topS 35) 2
theorem sc_Condition_always : FnScope [] [] (defScope s_Condition_always) := ⟨rfl, rfl, rfl, by decide +kernel, rfl, by decide +kernel, by decide +kernel⟩

abbrev s_Condition_never : Stmt := mthS (topS 35) 3
theorem sc_Condition_never : FnScope [] [] (defScope s_Condition_never) := ⟨rfl, rfl, rfl, by decide +kernel, rfl, by decide +kernel, by decide +kernel⟩

abbrev s_Condition_compare : Stmt := mthS (topS 35) 4
theorem sc_Condition_compare : FnScope ["field", "sign", "number"] ["field", "sign", "number"] (defScope s_Condition_compare) := ⟨rfl, rfl, rfl, by decide +kernel, rfl, by decide +kernel, by decide +kernel⟩

abbrev s_Condition_fields : Stmt := mthS (topS 35) 6
theorem sc_Condition_fields : FnScope ["self"] ["self"] (defScope s_Condition_fields) := ⟨rfl, rfl, rfl, by decide +kernel, rfl, by decide +kernel, by decide +kernel⟩

abbrev s_Condition_size : Stmt := mthS (topS 35) 7
theorem sc_Condition_size : FnScope ["self"] ["self"] (defScope s_Condition_size) := ⟨rfl, rfl, rfl, by decide +kernel, rfl, by decide +kernel, by decide +kernel⟩

abbrev s_Condition___and__ : Stmt := mthS (topS 35) 10
theorem sc_Condition___and__ : FnScope ["self", "other"] ["self", "other"] (defScope s_Condition___and__) := ⟨rfl, rfl, rfl, by decide +kernel, rfl, by decide +kernel, by decide +kernel⟩

abbrev s_Condition___or__ : Stmt := mthS (topS 35) 11
theorem sc_Condition___or__ : FnScope ["self", "other"] ["self", "other"] (defScope s_Condition___or__) := ⟨rfl, rfl, rfl, by decide +kernel, rfl, by decide +kernel, by decide +kernel⟩

abbrev s_Condition___invert__ : Stmt := mthS (topS 35) 12
theorem sc_Condition___invert__ : FnScope ["self"] ["self"] (defScope s_Condition___invert__) := ⟨rfl, rfl, rfl, by decide +kernel, rfl, by decide +kernel, by decide +kernel⟩

abbrev s_BadName : Stmt := mthS (topS 3) 0
theorem sc_BadName : NdefX.NScope ["self", "name", "__class__"] ["self", "name"] ["__class__"] (defScope s_BadName) := NdefX.nscope_by (by decide +kernel)
abbrev s_BadNumber : Stmt := mthS (topS 4) 0
theorem sc_BadNumber : NdefX.NScope ["self", "value", "__class__"] ["self", "value"] ["__class__"] (defScope s_BadNumber) := NdefX.nscope_by (by decide +kernel)
abbrev s_BadSign : Stmt := mthS (topS 5) 0
theorem sc_BadSign : NdefX.NScope ["self", "sign", "__class__"] ["self", "sign"] ["__class__"] (defScope s_BadSign) := NdefX.nscope_by (by decide +kernel)
abbrev s_BadText : Stmt := mthS (topS 6) 0
theorem sc_BadText : NdefX.NScope ["self", "line", "column", "__class__"] ["self", "line", "column"] ["__class__"] (defScope s_BadText) := NdefX.nscope_by (by decide +kernel)
abbrev s_TooLarge : Stmt := mthS (topS 7) 0
theorem sc_TooLarge : NdefX.NScope ["self", "most", "__class__"] ["self", "most"] ["__class__"] (defScope s_TooLarge) := NdefX.nscope_by (by decide +kernel)
abbrev s_UnknownName : Stmt := mthS (topS 8) 0
theorem sc_UnknownName : NdefX.NScope ["self", "name", "__class__"] ["self", "name"] ["__class__"] (defScope s_UnknownName) := NdefX.nscope_by (by decide +kernel)
section
variable {P : Program} {w : World} {K : PySem.W.Frag} {mg : Str → Option Value} {base : Heap}
variable {t_BOUND t_LETTERS t_LONGEST_NAME : Tok} {a_ALWAYS a_NEVER a_OPPOSITES a_RESERVED a_SIGNS a_BadName a_BadNumber a_BadSign a_Condition a_ElseputError a_TooLarge : Addr}
structure Gs (K : PySem.W.Frag) (mg : Str → Option Value) (t_BOUND t_LETTERS t_LONGEST_NAME : Tok) (a_ALWAYS a_NEVER a_OPPOSITES a_RESERVED a_SIGNS a_BadName a_BadNumber a_BadSign a_Condition a_ElseputError a_TooLarge : Addr) : Prop where
  z_ValueError : mg "ValueError" = none
  z_all : mg "all" = none
  z_bool : mg "bool" = none
  z_dict : mg "dict" = none
  z_int : mg "int" = none
  z_isinstance : mg "isinstance" = none
  z_len : mg "len" = none
  z_list : mg "list" = none
  z_property : mg "property" = none
  z_range : mg "range" = none
  z_sorted : mg "sorted" = none
  z_staticmethod : mg "staticmethod" = none
  z_str : mg "str" = none
  z_super : mg "super" = none
  z_tuple : mg "tuple" = none
  g_BOUND : mg "BOUND" = some (.int 1000000000000000000000000000000 t_BOUND)
  g_LETTERS : mg "LETTERS" = some (.str "abcdefghijklmnopqrstuvwxyz" t_LETTERS)
  g_LONGEST_NAME : mg "LONGEST_NAME" = some (.int 12 t_LONGEST_NAME)
  g_ALWAYS : mg "ALWAYS" = some (.ref a_ALWAYS)
  q_ALWAYS : ∀ H, SqT K H a_ALWAYS [(.str "always")]
  g_NEVER : mg "NEVER" = some (.ref a_NEVER)
  q_NEVER : ∀ H, SqT K H a_NEVER [(.str "never")]
  g_OPPOSITES : mg "OPPOSITES" = some (.ref a_OPPOSITES)
  g_RESERVED : mg "RESERVED" = some (.ref a_RESERVED)
  q_RESERVED : ∀ H, SqT K H a_RESERVED [(.str "always"), (.str "never"), (.str "and"), (.str "or"), (.str "not"), (.str "when"), (.str "add"), (.str "set"), (.str "change"), (.str "tell"), (.str "refuse"), (.str "take"), (.str "look"), (.str "free"), (.str "lock"), (.str "keep"), (.str "keys"), (.str "fields")]
  g_SIGNS : mg "SIGNS" = some (.ref a_SIGNS)
  q_SIGNS : ∀ H, SqT K H a_SIGNS [(.str "<"), (.str "<="), (.str "=="), (.str "!="), (.str ">="), (.str ">")]
  g_BadName : mg "BadName" = some (.ref a_BadName)
  n_BadName : PySem.W.nsIn K mainGlobals "BadName" = some (some (.ref a_BadName))
  x_BadName : ExV K a_BadName ["name"]
  g_BadNumber : mg "BadNumber" = some (.ref a_BadNumber)
  n_BadNumber : PySem.W.nsIn K mainGlobals "BadNumber" = some (some (.ref a_BadNumber))
  x_BadNumber : ExV K a_BadNumber ["value"]
  g_BadSign : mg "BadSign" = some (.ref a_BadSign)
  n_BadSign : PySem.W.nsIn K mainGlobals "BadSign" = some (some (.ref a_BadSign))
  x_BadSign : ExV K a_BadSign ["sign"]
  g_Condition : mg "Condition" = some (.ref a_Condition)
  n_Condition : PySem.W.nsIn K mainGlobals "Condition" = some (some (.ref a_Condition))
  g_ElseputError : mg "ElseputError" = some (.ref a_ElseputError)
  n_ElseputError : PySem.W.nsIn K mainGlobals "ElseputError" = some (some (.ref a_ElseputError))
  g_TooLarge : mg "TooLarge" = some (.ref a_TooLarge)
  n_TooLarge : PySem.W.nsIn K mainGlobals "TooLarge" = some (some (.ref a_TooLarge))
  x_TooLarge : ExV K a_TooLarge ["most"]
  cl_Condition : Cls K a_Condition
  na_Condition__fields : NoAttr K a_Condition "_fields"
  na_Condition_tree : NoAttr K a_Condition "tree"
  cv_Condition_MOST : ∃ u, ClX.CVal K a_Condition (.type "type") "MOST" (.int 8) u
  rd_Condition : ClX.CRead K a_Condition (.type "type")
  m_BadName_ElseputError : PySem.W.exmOne K (.ref a_BadName) (.ref a_ElseputError) = some true
  m_BadNumber_ElseputError : PySem.W.exmOne K (.ref a_BadNumber) (.ref a_ElseputError) = some true
  m_BadSign_ElseputError : PySem.W.exmOne K (.ref a_BadSign) (.ref a_ElseputError) = some true
  m_TooLarge_ElseputError : PySem.W.exmOne K (.ref a_TooLarge) (.ref a_ElseputError) = some true
  k_BadName_TooLarge : PySem.W.kitOne K (.ref a_BadName) (.ref a_TooLarge) = some false
  k_BadName_ValueError : PySem.W.kitOne K (.ref a_BadName) (.type "ValueError") = some true
  k_BadName_BadNumber : PySem.W.kitOne K (.ref a_BadName) (.ref a_BadNumber) = some false
  k_BadNumber_TooLarge : PySem.W.kitOne K (.ref a_BadNumber) (.ref a_TooLarge) = some false
  k_BadNumber_ValueError : PySem.W.kitOne K (.ref a_BadNumber) (.type "ValueError") = some true
  k_BadNumber_BadNumber : PySem.W.kitOne K (.ref a_BadNumber) (.ref a_BadNumber) = some true
  k_BadSign_TooLarge : PySem.W.kitOne K (.ref a_BadSign) (.ref a_TooLarge) = some false
  k_BadSign_ValueError : PySem.W.kitOne K (.ref a_BadSign) (.type "ValueError") = some true
  k_BadSign_BadNumber : PySem.W.kitOne K (.ref a_BadSign) (.ref a_BadNumber) = some false
  k_TooLarge_TooLarge : PySem.W.kitOne K (.ref a_TooLarge) (.ref a_TooLarge) = some true
  k_TooLarge_ValueError : PySem.W.kitOne K (.ref a_TooLarge) (.type "ValueError") = some true
  k_TooLarge_BadNumber : PySem.W.kitOne K (.ref a_TooLarge) (.ref a_BadNumber) = some false
/-! ### the script's state -/
def stv (scr : Addr) (i v m c : Int) : List V := [.ref scr, .int i, .int v, .int m, .int c]
def DrAt (H : Hp) (st scr : Addr) : Prop := ∃ (ns : List Int) (i v m c : Int), H st = some (.lst (stv scr i v m c)) ∧ H scr = some (.lst (ns.map V.int)) ∧ ns.length ≤ 63 ∧ 0 ≤ i
theorem DrAt.ne {H : Hp} {st scr : Addr} {ns : List Int} {i v m c : Int} (h : H st = some (.lst (stv scr i v m c))) (h2 : H scr = some (.lst (ns.map V.int))) : scr ≠ st := by
  refine ne_of h2 h fun e => ?_
  injection e with e
  cases ns with
  | nil => simp [stv] at e
  | cons a r => simp [stv] at e
theorem DrAt.upd {H : Hp} {st scr : Addr} {ns : List Int} {i v m c i' v' m' c' : Int} (h : H st = some (.lst (stv scr i v m c))) (h2 : H scr = some (.lst (ns.map V.int))) (hl : ns.length ≤ 63) (h0 : 0 ≤ i') : DrAt (upd H st (.lst (stv scr i' v' m' c'))) st scr :=
  ⟨ns, i', v', m', c', upd_same, by rw [upd_ne (DrAt.ne h h2)]; exact h2, hl, h0⟩
theorem upd_id {H : Hp} {a : Addr} {o : HO} (h : H a = some o) : upd H a o = H := by
  funext b
  unfold L2.upd
  split
  · rename_i e; rw [e, h]
  · rfl
theorem DrAt.lst {H : Hp} {st scr : Addr} (h : DrAt H st scr) : ∃ l, H st = some (.lst l) := by
  obtain ⟨ns, i, v, m, c, h, _⟩ := h
  exact ⟨_, h⟩
theorem DrAt.new {H H' : Hp} {st scr : Addr} (h : DrAt H st scr) (s : Same H H') : DrAt H' st scr := by
  obtain ⟨ns, i, v, m, c, h1, h2, h3⟩ := h
  exact ⟨ns, i, v, m, c, s _ _ h1, s _ _ h2, h3⟩
theorem DrAt.at {H : Hp} {st scr p : Addr} {o : HO} (h : DrAt H st scr) (h1 : p ≠ st) (h2 : p ≠ scr) : DrAt (L2.upd H p o) st scr := by
  obtain ⟨ns, i, v, m, c, e1, e2, h3⟩ := h
  exact ⟨ns, i, v, m, c, by rw [upd_ne h1.symm]; exact e1, by rw [upd_ne h2.symm]; exact e2, h3⟩
theorem same_new {H : Hp} {p : Addr} {o : HO} (h : H p = none) : Same H (upd H p o) := fun b u q => by rw [upd_ne (ne_of_none q h)]; exact q
theorem free_new {H : Hp} {p q : Addr} {o : HO} (h : upd H p o q = none) : H q = none := by
  unfold L2.upd at h
  split at h
  · cases h
  · exact h
theorem new_ne {H : Hp} {p q : Addr} {o : HO} (h : upd H p o q = none) : q ≠ p := fun e => by rw [e, upd_same] at h; cases h
theorem len_add (a b : Str) : (a ++ b).length = a.length + b.length := by
  show (a.cps ++ b.cps).size = _
  rw [Array.size_append]
  rfl
theorem cps_add (a b : Str) : (a ++ b).cps.toList = a.cps.toList ++ b.cps.toList := by
  show (a.cps ++ b.cps).toList = _
  rw [Array.toList_append]
theorem len_cps (z : Str) : z.cps.toList.length = z.length := Array.length_toList
theorem line_of {n : Nat} (h : n ≤ 100000) : n ≤ sizeLine := Nat.le_trans h (by decide)
theorem line_lt {n : Nat} (h : n < 100000) : n < sizeLine := Nat.lt_of_lt_of_le h (by decide)
/-- all that stood stands, st's own numbers aside -/
def Bt (st : Addr) (H H' : Hp) : Prop := ∀ b o, b ≠ st → H b = some o → H' b = some o
theorem Bt.refl (st : Addr) (H : Hp) : Bt st H H := fun _ _ _ h => h
theorem Bt.trans {st : Addr} {H H1 H2 : Hp} (a : Bt st H H1) (b : Bt st H1 H2) : Bt st H H2 := fun c o n h => b c o n (a c o n h)
theorem Bt.same {st : Addr} {H H' : Hp} (s : Same H H') : Bt st H H' := fun b o _ h => s b o h
theorem Bt.st {st : Addr} {H : Hp} {o : HO} : Bt st H (upd H st o) := fun b u n h => by rw [upd_ne n]; exact h
theorem Bt.free {st : Addr} {H H' : Hp} (s : Bt st H H') {l : Addr} (n : l ≠ st) (h : H' l = none) : H l = none := by
  cases q : H l with
  | none => rfl
  | some o => rw [s l o n q] at h; cases h
theorem DrAt.ne_new {H : Hp} {st scr p : Addr} (h : DrAt H st scr) (n : H p = none) : p ≠ st := by
  obtain ⟨l, e⟩ := h.lst
  exact (ne_of_none e n).symm

theorem DrAt.ne_scr {H : Hp} {st scr p : Addr} (h : DrAt H st scr) (n : H p = none) : p ≠ scr := by
  obtain ⟨ns, i, v, m, c, e1, e2, h3⟩ := h
  exact (ne_of_none e2 n).symm

/-! ### is_name -/
abbrev letters : Str := "abcdefghijklmnopqrstuvwxyz"
abbrev resv : List V := [.str "always", .str "never", .str "and", .str "or", .str "not", .str "when", .str "add", .str "set", .str "change", .str "tell", .str "refuse", .str "take", .str "look", .str "free", .str "lock", .str "keep", .str "keys", .str "fields"]
def isName (z : Str) : Bool := if (decide ((z.length : Int) < 1) || decide ((12 : Int) < z.length) || inV (.str z) resv) = true then false else z.cps.toList.all fun c => decide (c ∈ letters.cps.toList)
def sp_is_name (K : PySem.W.Frag) : Sp := fun vs H Q _ => ∃ z : Str, vs = [.str z] ∧ z.length ≤ 1000 ∧ ∀ H', Same H H' → Q (.bl (isName z)) H'
theorem len_is_name {vs : List V} {H : Hp} {Q : VK} {E : XK} (h : sp_is_name K vs H Q E) : vs.length = 1 := by
  obtain ⟨_, rfl, _⟩ := h
  rfl
theorem ok_is_name {f : Addr} {fd : FuncData} (F : Fun K "is_name" "is_name" s_is_name f fd) (T : Gs K mg t_BOUND t_LETTERS t_LONGEST_NAME a_ALWAYS a_NEVER a_OPPOSITES a_RESERVED a_SIGNS a_BadName a_BadNumber a_BadSign a_Condition a_ElseputError a_TooLarge) : FnOk P w K mg base CX0 1 f fd ["text"] (sp_is_name K) := by
  refine F.ok sc_is_name (fun vs H Q E h => len_is_name h) (fun cdv A outer s H vs Q E hr h => ?_)
  obtain ⟨z, rfl, h0, q⟩ := h
  refine ⟨_, (pss_cons (ps_if (PW.pt (pw_or (pt_c op_ltM (pe_callB (lenK K) (by rfl) T.z_len PySem.boot_len (pa_cons (v_ 0) pa_nil)) pe_int) (pw_or (pt_c op_gtM (pe_callB (lenK K) (by rfl) T.z_len PySem.boot_len (pa_cons (v_ 0) pa_nil)) (pe_glob (v := .int 12) rfl T.g_LONGEST_NAME ⟨_, rfl⟩)) (pw_or1 (pt_c (inK K) (v_ 0) (pe_glob (v := .ref a_RESERVED) rfl T.g_RESERVED rfl)))))) (pss_one (ps_ret pe_bl)) pss_nil) (pss_one (ps_ret (pe_callB (allK K rfl) (by rfl) T.z_all (by decide +kernel) (pa_cons (pe_lc (own := [("letter", 1)]) (g := gName 1) (by rfl) sc_is_name.nd (pi_str (v_ 0)) (blkOk_by (N := ["text", "letter"]) (sc := defScope s_is_name) (by decide +kernel)) (fun _ _ _ _ _ => pg_name (i := 1) sc_is_name.nd rfl (Or.inl rfl)) (fun _ _ _ _ _ => pts_nil) (fun _ _ _ _ _ => (pe_c (inK K) (v_ 1) (pe_glob (v := .str "abcdefghijklmnopqrstuvwxyz") rfl T.g_LETTERS ⟨_, rfl⟩)))) pa_nil))))), ?_⟩
  refine ⟨line_of (by omega), ?_⟩
  have no : ∀ c : Bool, (decide ((z.length : Int) < 1) || decide ((12 : Int) < z.length) || inV (.str z) resv) = c → isName z = if c = true then false else z.cps.toList.all fun c => decide (c ∈ letters.cps.toList) := fun c e => by
    rw [← e]; rfl
  refine ite2 (fun e => ?_) (fun e => ?_)
  · have := q H (Same.refl H)
    rw [no true (by rw [show decide ((z.length : Int) < 1) = true from e]; rfl)] at this
    exact this
  refine ⟨line_of (by omega), ?_⟩
  refine ite2 (fun e1 => ?_) (fun e1 => ?_)
  · have := q H (Same.refl H)
    rw [no true (by rw [show decide ((12 : Int) < z.length) = true from e1, Bool.or_true]; rfl)] at this
    exact this
  refine ⟨_, .inr (T.q_RESERVED _), rfl, rfl, ?_⟩
  refine ite2 (fun e2 => ?_) (fun e2 => ?_)
  · have := q H (Same.refl H)
    rw [no true (by rw [show inV (.str z) resv = true from e2, Bool.or_true])] at this
    exact this
  have en : isName z = z.cps.toList.all fun c => decide (c ∈ letters.cps.toList) := by
    rw [no false (by rw [show decide ((z.length : Int) < 1) = false from Bool.eq_false_iff.mpr e, show decide ((12 : Int) < z.length) = false from Bool.eq_false_iff.mpr e1, show inV (.str z) resv = false from Bool.eq_false_iff.mpr e2]; rfl)]
    rfl
  refine ⟨z, rfl, fun D nD => lc_it walk_str (fun i H' => H' = upd H D (.lst (((z.cps.toList.take i).map fun c => decide (c ∈ letters.cps.toList)).map V.bl))) rfl (fun _ _ _ _ => True.intro) ?_ ?_⟩
  · rintro i x H1 H2 hi rfl ⟨rfl, c, hc, rfl⟩
    refine ⟨rfl, ?_⟩
    refine ⟨c, rfl, _, upd_same, ?_, ?_⟩
    · rw [List.length_map, List.length_map, List.length_take]
      have : z.cps.size = z.length := rfl
      exact small1000 (by omega)
    · rw [upd_upd]
      have e : z.cps.toList.take (i + 1) = z.cps.toList.take i ++ [c] := by
        rw [List.take_add_one, Array.getElem?_toList, hc]
        rfl
      rw [e, List.map_append, List.map_append]
      rfl
  · rintro H1 rfl
    rw [show z.cps.size = z.cps.toList.length from (Array.length_toList).symm, List.take_length]
    refine ⟨_, _, rfl, SqL.of upd_same, ?_⟩
    have := q _ (same_new nD (o := .lst ((z.cps.toList.map fun c => decide (c ∈ letters.cps.toList)).map V.bl)))
    rw [en] at this
    rw [List.all_map]
    exact this


end
section
variable {P : Program} {w : World} {K : PySem.W.Frag} {mg : Str → Option Value} {base : Heap}
variable {t_BOUND t_LETTERS t_LONGEST_NAME : Tok} {a_ALWAYS a_NEVER a_OPPOSITES a_RESERVED a_SIGNS a_BadName a_BadNumber a_BadSign a_Condition a_ElseputError a_TooLarge : Addr}
/-! ### checks -/
theorem isName_mem {z : Str} (h : isName z = true) : (∀ c ∈ z.cps.toList, c ∈ letters.cps.toList) ∧ 1 ≤ z.length ∧ z.length ≤ 12 ∧ inV (.str z) resv = false := by
  unfold isName at h
  split at h
  · exact absurd h (by decide)
  · rename_i hc
    rw [Bool.not_eq_true, Bool.or_eq_false_iff, Bool.or_eq_false_iff, decide_eq_false_iff_not, decide_eq_false_iff_not] at hc
    exact ⟨fun c hm => of_decide_eq_true (List.all_eq_true.mp h c hm), by omega, by omega, hc.2⟩
theorem letters_small : ∀ c ∈ letters.cps.toList, c < 16 ^ 8 := by decide +kernel
theorem isName_asc {z : Str} (h : isName z = true) : Asc z := fun c hc => letters_small c ((isName_mem h).1 c hc)
def inB (i : Int) : Bool := decide (-1000000000000000000000000000000 ≤ i) && decide (i ≤ 1000000000000000000000000000000)
def BadN (K : PySem.W.Frag) (H : Hp) (z : Str) (E : XK) : Prop := ∀ (C d : Addr) (H' : Hp), PySem.W.nsIn K mainGlobals "BadName" = some (some (.ref C)) → Same H H' → H d = none → H' d = some (.xd [("name", .str z)]) → E (.ref C) (some d) H'
def BadI (K : PySem.W.Frag) (H : Hp) (i : Int) (E : XK) : Prop := ∀ (C d : Addr) (H' : Hp), PySem.W.nsIn K mainGlobals "BadNumber" = some (some (.ref C)) → Same H H' → H d = none → H' d = some (.xd [("value", .int i)]) → E (.ref C) (some d) H'
def BadS (K : PySem.W.Frag) (H : Hp) (z : Str) (E : XK) : Prop := ∀ (C d : Addr) (H' : Hp), PySem.W.nsIn K mainGlobals "BadSign" = some (some (.ref C)) → Same H H' → H d = none → H' d = some (.xd [("sign", .str z)]) → E (.ref C) (some d) H'
theorem BadS.same {K : PySem.W.Frag} {H H1 : Hp} {z : Str} {E : XK} (h : BadS K H z E) (s : Same H H1) : BadS K H1 z E := fun C d H' hC s2 nd hd => h C d H' hC (s.trans s2) (Same.free s nd) hd
theorem BadN.same {K : PySem.W.Frag} {H H1 : Hp} {z : Str} {E : XK} (h : BadN K H z E) (s : Same H H1) : BadN K H1 z E := fun C d H' hC s2 nd hd => h C d H' hC (s.trans s2) (Same.free s nd) hd
theorem BadI.same {K : PySem.W.Frag} {H H1 : Hp} {z : Int} {E : XK} (h : BadI K H z E) (s : Same H H1) : BadI K H1 z E := fun C d H' hC s2 nd hd => h C d H' hC (s.trans s2) (Same.free s nd) hd
def okx_BadName (ws : List V) : Prop := ∃ z : Str, ws = [.str z] ∧ z.length ≤ 1000 ∧ Asc z
def fs_BadName (ws : List V) : List (Str × V) := match ws with | [l] => [("name", l)] | _ => []
def okx_BadSign (ws : List V) : Prop := okx_BadName ws
def fs_BadSign (ws : List V) : List (Str × V) := match ws with | [l] => [("sign", l)] | _ => []
def okx_BadNumber (ws : List V) : Prop := ∃ l : Int, ws = [.int l] ∧ l.natAbs < 2 ^ 200
def fs_BadNumber (ws : List V) : List (Str × V) := match ws with | [l] => [("value", l)] | _ => []
theorem len_spE {C : Addr} {ok : List V → Prop} {fs : List V → List (Str × V)} {n : Nat} (hn : ∀ ws, ok ws → ws.length = n) {vs : List V} {H : Hp} {Q : VK} {E : XK} (h : spE C ok fs vs H Q E) : vs.length = n + 1 := by
  obtain ⟨a, ws, rfl, h, _⟩ := h
  rw [List.length_cons, hn _ h]
theorem log_200 {i : Int} (h : i.natAbs < 2 ^ 200) : i.natAbs.log2 < 1920 := by
  by_cases hz : i.natAbs = 0
  · rw [hz]
    decide
  · exact (Nat.log2_lt hz).mpr (Nat.lt_of_lt_of_le h (Nat.pow_le_pow_right (by decide) (by decide)))
theorem ok_BadName {C f cc cda : Addr} {doc pm ct oc ccl cl : Value} {od cdd cld : Option Addr} {osl ccs csl : Array (Option Value)} {vs0 : Array Value} {file : Str} {tf : Tok} {cdD : ClassData}
    (X : ExK K C f ["name"]) (lk : K.lookup f = some ⟨oc, od, .func (PySem.W.fnX "__init__" "BadName.__init__" (defArgs s_BadName) (defBody s_BadName) (defScope s_BadName) [("__class__", cc)] .none .none doc pm none (.ref cda) ct), osl⟩)
    (hcd : PySem.W.codeIn K (.ref cda) "BadName.__init__" = true) (hcode : K.lookup cda = some ⟨ccl, cdd, .fields vs0, ccs⟩) (hvs : vs0[2]? = some (.str file tf)) (hfile : ((P.main.file : Str) == file) = true)
    (hcell : K.lookup cc = some ⟨cl, cld, .cell (some (.ref C)), csl⟩) (hD : PySem.W.clsIn K C = some cdD) (hsuper : mg "super" = none) (hop : PySem.W.nsIn K PySem.cStatics "thirdparty.any" = some none) (htop : (P.main.scope.names.lookup ("super" : Str)).isSome = false) :
    FnOk P w K mg base CX0 1 f (PySem.W.fnX "__init__" "BadName.__init__" (defArgs s_BadName) (defBody s_BadName) (defScope s_BadName) [("__class__", cc)] .none .none doc pm none (.ref cda) ct) ["self", "name"] (spE C okx_BadName fs_BadName) := by
  refine fn_super lk hcd sc_BadName hcode hvs hfile hcell hD hsuper hop rfl rfl rfl htop rfl (fun vs H Q E h => len_spE (n := 1) (fun ws h => by obtain ⟨_, rfl, _⟩ := h; rfl) h) (fun A outer s H vs Q E hr h => ?_) (fun _ => rfl) (fun _ => rfl) (fun _ => rfl)
  obtain ⟨a, ws, rfl, ⟨l, rfl, l0, l1⟩, ea, q⟩ := h
  refine ⟨a, C, _, _, rfl, ea, X.oex, X.mro, X.sup, X.subV, pa_cons (pe_joined (.cons pe_str (.cons (pe_fmtR (v_ 1)) .nil))) pa_nil, pss_one (ps_ost (v_ 0) (v_ 1)), ?_⟩
  have tl := repr_le l1 l0
  have z0 : Str.empty.length = 0 := rfl
  have z1 : (Str.ofString "not a name: ").length = 12 := rfl
  refine ⟨_, rfl, line_of (by rw [len_add]; omega), .inl ⟨_, rfl, line_of (by omega), _, rfl, line_of (by rw [len_add, len_add]; omega), ?_⟩⟩
  refine ⟨ea, (by show 1 ≤ 1000; decide), ?_⟩
  exact ⟨a, C, rfl, X.oex, X.no _ (by simp), .inl ⟨ea, ost1 ea fun dx H' n ne e1 e2 hh => q dx _ n ne e1 e2 hh⟩⟩
theorem ok_BadSign {C f cc cda : Addr} {doc pm ct oc ccl cl : Value} {od cdd cld : Option Addr} {osl ccs csl : Array (Option Value)} {vs0 : Array Value} {file : Str} {tf : Tok} {cdD : ClassData}
    (X : ExK K C f ["sign"]) (lk : K.lookup f = some ⟨oc, od, .func (PySem.W.fnX "__init__" "BadSign.__init__" (defArgs s_BadSign) (defBody s_BadSign) (defScope s_BadSign) [("__class__", cc)] .none .none doc pm none (.ref cda) ct), osl⟩)
    (hcd : PySem.W.codeIn K (.ref cda) "BadSign.__init__" = true) (hcode : K.lookup cda = some ⟨ccl, cdd, .fields vs0, ccs⟩) (hvs : vs0[2]? = some (.str file tf)) (hfile : ((P.main.file : Str) == file) = true)
    (hcell : K.lookup cc = some ⟨cl, cld, .cell (some (.ref C)), csl⟩) (hD : PySem.W.clsIn K C = some cdD) (hsuper : mg "super" = none) (hop : PySem.W.nsIn K PySem.cStatics "thirdparty.any" = some none) (htop : (P.main.scope.names.lookup ("super" : Str)).isSome = false) :
    FnOk P w K mg base CX0 1 f (PySem.W.fnX "__init__" "BadSign.__init__" (defArgs s_BadSign) (defBody s_BadSign) (defScope s_BadSign) [("__class__", cc)] .none .none doc pm none (.ref cda) ct) ["self", "sign"] (spE C okx_BadSign fs_BadSign) := by
  refine fn_super lk hcd sc_BadSign hcode hvs hfile hcell hD hsuper hop rfl rfl rfl htop rfl (fun vs H Q E h => len_spE (n := 1) (fun ws h => by obtain ⟨_, rfl, _⟩ := h; rfl) h) (fun A outer s H vs Q E hr h => ?_) (fun _ => rfl) (fun _ => rfl) (fun _ => rfl)
  obtain ⟨a, ws, rfl, ⟨l, rfl, l0, l1⟩, ea, q⟩ := h
  refine ⟨a, C, _, _, rfl, ea, X.oex, X.mro, X.sup, X.subV, pa_cons (pe_joined (.cons pe_str (.cons (pe_fmtR (v_ 1)) .nil))) pa_nil, pss_one (ps_ost (v_ 0) (v_ 1)), ?_⟩
  have tl := repr_le l1 l0
  have z0 : Str.empty.length = 0 := rfl
  have z1 : (Str.ofString "not a sign: ").length = 12 := rfl
  refine ⟨_, rfl, line_of (by rw [len_add]; omega), .inl ⟨_, rfl, line_of (by omega), _, rfl, line_of (by rw [len_add, len_add]; omega), ?_⟩⟩
  refine ⟨ea, (by show 1 ≤ 1000; decide), ?_⟩
  exact ⟨a, C, rfl, X.oex, X.no _ (by simp), .inl ⟨ea, ost1 ea fun dx H' n ne e1 e2 hh => q dx _ n ne e1 e2 hh⟩⟩
theorem ok_BadNumber {C f cc cda : Addr} {doc pm ct oc ccl cl : Value} {od cdd cld : Option Addr} {osl ccs csl : Array (Option Value)} {vs0 : Array Value} {file : Str} {tf : Tok} {cdD : ClassData}
    (X : ExK K C f ["value"]) (lk : K.lookup f = some ⟨oc, od, .func (PySem.W.fnX "__init__" "BadNumber.__init__" (defArgs s_BadNumber) (defBody s_BadNumber) (defScope s_BadNumber) [("__class__", cc)] .none .none doc pm none (.ref cda) ct), osl⟩)
    (hcd : PySem.W.codeIn K (.ref cda) "BadNumber.__init__" = true) (hcode : K.lookup cda = some ⟨ccl, cdd, .fields vs0, ccs⟩) (hvs : vs0[2]? = some (.str file tf)) (hfile : ((P.main.file : Str) == file) = true)
    (hcell : K.lookup cc = some ⟨cl, cld, .cell (some (.ref C)), csl⟩) (hD : PySem.W.clsIn K C = some cdD) (hsuper : mg "super" = none) (hop : PySem.W.nsIn K PySem.cStatics "thirdparty.any" = some none) (htop : (P.main.scope.names.lookup ("super" : Str)).isSome = false) :
    FnOk P w K mg base CX0 1 f (PySem.W.fnX "__init__" "BadNumber.__init__" (defArgs s_BadNumber) (defBody s_BadNumber) (defScope s_BadNumber) [("__class__", cc)] .none .none doc pm none (.ref cda) ct) ["self", "value"] (spE C okx_BadNumber fs_BadNumber) := by
  refine fn_super lk hcd sc_BadNumber hcode hvs hfile hcell hD hsuper hop rfl rfl rfl htop rfl (fun vs H Q E h => len_spE (n := 1) (fun ws h => by obtain ⟨_, rfl, _⟩ := h; rfl) h) (fun A outer s H vs Q E hr h => ?_) (fun _ => rfl) (fun _ => rfl) (fun _ => rfl)
  obtain ⟨a, ws, rfl, ⟨l, rfl, l0⟩, ea, q⟩ := h
  refine ⟨a, C, _, _, rfl, ea, X.oex, X.mro, X.sup, X.subV, pa_cons (pe_joined (.cons pe_str (.cons (pe_fmt (v_ 1)) .nil))) pa_nil, pss_one (ps_ost (v_ 0) (v_ 1)), ?_⟩
  have tl := int_text_len_1921 (log_200 l0)
  have z0 : Str.empty.length = 0 := rfl
  have z1 : (Str.ofString "out of bounds: ").length = 15 := rfl
  refine ⟨_, rfl, line_of (by rw [len_add]; omega), .inr ⟨_, rfl, log_200 l0, _, rfl, line_of (by rw [len_add, len_add]; omega), ?_⟩⟩
  refine ⟨ea, (by show 1 ≤ 1000; decide), ?_⟩
  exact ⟨a, C, rfl, X.oex, X.no _ (by simp), .inl ⟨ea, ost1 ea fun dx H' n ne e1 e2 hh => q dx _ n ne e1 e2 hh⟩⟩
def okx_TooLarge (ws : List V) : Prop := ∃ l : Int, ws = [.int l] ∧ 0 ≤ l ∧ l ≤ 100000
def fs_TooLarge (ws : List V) : List (Str × V) := match ws with | [l] => [("most", l)] | _ => []
theorem log_small {i : Int} (h0 : 0 ≤ i) (h1 : i ≤ 100000) : i.natAbs.log2 < 1920 := by
  by_cases hz : i.natAbs = 0
  · rw [hz]
    decide
  · refine (Nat.log2_lt hz).mpr ?_
    have : i.natAbs ≤ 100000 := by omega
    exact Nat.lt_of_le_of_lt this (Nat.lt_of_lt_of_le (show 100000 < 2 ^ 17 by decide) (Nat.pow_le_pow_right (by decide) (by decide)))
theorem text_small {i : Int} (h0 : 0 ≤ i) (h1 : i ≤ 100000) : (Str.ofString (toString i)).length ≤ 6 := toString_length_le h0 (by decide) (by omega)
theorem ok_TooLarge {C f cc cda : Addr} {doc pm ct oc ccl cl : Value} {od cdd cld : Option Addr} {osl ccs csl : Array (Option Value)} {vs0 : Array Value} {file : Str} {tf : Tok} {cdD : ClassData}
    (X : ExK K C f ["most"]) (lk : K.lookup f = some ⟨oc, od, .func (PySem.W.fnX "__init__" "TooLarge.__init__" (defArgs s_TooLarge) (defBody s_TooLarge) (defScope s_TooLarge) [("__class__", cc)] .none .none doc pm none (.ref cda) ct), osl⟩)
    (hcd : PySem.W.codeIn K (.ref cda) "TooLarge.__init__" = true) (hcode : K.lookup cda = some ⟨ccl, cdd, .fields vs0, ccs⟩) (hvs : vs0[2]? = some (.str file tf)) (hfile : ((P.main.file : Str) == file) = true)
    (hcell : K.lookup cc = some ⟨cl, cld, .cell (some (.ref C)), csl⟩) (hD : PySem.W.clsIn K C = some cdD) (hsuper : mg "super" = none) (hop : PySem.W.nsIn K PySem.cStatics "thirdparty.any" = some none) (htop : (P.main.scope.names.lookup ("super" : Str)).isSome = false) :
    FnOk P w K mg base CX0 1 f (PySem.W.fnX "__init__" "TooLarge.__init__" (defArgs s_TooLarge) (defBody s_TooLarge) (defScope s_TooLarge) [("__class__", cc)] .none .none doc pm none (.ref cda) ct) ["self", "most"] (spE C okx_TooLarge fs_TooLarge) := by
  refine fn_super lk hcd sc_TooLarge hcode hvs hfile hcell hD hsuper hop rfl rfl rfl htop rfl (fun vs H Q E h => len_spE (n := 1) (fun ws h => by obtain ⟨_, rfl, _⟩ := h; rfl) h) (fun A outer s H vs Q E hr h => ?_) (fun _ => rfl) (fun _ => rfl) (fun _ => rfl)
  obtain ⟨a, ws, rfl, ⟨l, rfl, l0, l1⟩, ea, q⟩ := h
  refine ⟨a, C, _, _, rfl, ea, X.oex, X.mro, X.sup, X.subV, pa_cons (pe_joined (.cons pe_str (.cons (pe_fmt (v_ 1)) .nil))) pa_nil, pss_one (ps_ost (v_ 0) (v_ 1)), ?_⟩
  have tl := text_small l0 l1
  have z0 : Str.empty.length = 0 := rfl
  have z1 : (Str.ofString "more than ").length = 10 := rfl
  refine ⟨_, rfl, line_of (by rw [len_add]; omega), .inr ⟨_, rfl, log_small l0 l1, _, rfl, line_of (by rw [len_add, len_add]; omega), ?_⟩⟩
  refine ⟨ea, (by show 1 ≤ 1000; decide), ?_⟩
  exact ⟨a, C, rfl, X.oex, X.no _ (by simp), .inl ⟨ea, ost1 ea fun dx H' n ne e1 e2 hh => q dx _ n ne e1 e2 hh⟩⟩

end
section
variable {P : Program} {w : World} {K : PySem.W.Frag} {mg : Str → Option Value} {base : Heap}
variable {t_BOUND t_LETTERS t_LONGEST_NAME : Tok} {a_ALWAYS a_NEVER a_OPPOSITES a_RESERVED a_SIGNS a_BadName a_BadNumber a_BadSign a_Condition a_ElseputError a_TooLarge : Addr}
def sp_in_bound (K : PySem.W.Frag) : Sp := fun vs H Q _ => ∃ i : Int, vs = [.int i] ∧ Q (.bl (inB i)) H
theorem len_in_bound {vs : List V} {H : Hp} {Q : VK} {E : XK} (h : sp_in_bound K vs H Q E) : vs.length = 1 := by
  obtain ⟨_, rfl, _⟩ := h
  rfl
theorem ok_in_bound {f : Addr} {fd : FuncData} (F : Fun K "in_bound" "in_bound" s_in_bound f fd) (T : Gs K mg t_BOUND t_LETTERS t_LONGEST_NAME a_ALWAYS a_NEVER a_OPPOSITES a_RESERVED a_SIGNS a_BadName a_BadNumber a_BadSign a_Condition a_ElseputError a_TooLarge) : FnOk P w K mg base CX0 1 f fd ["value"] (sp_in_bound K) := by
  refine F.ok sc_in_bound (fun vs H Q E h => len_in_bound h) (fun cdv A outer s H vs Q E hr h => ?_)
  obtain ⟨i, rfl, q⟩ := h
  refine ⟨_, (pss_one (ps_ret (pe_chain op_leM op_leM (pe_un un_negM (pe_glob (v := .int 1000000000000000000000000000000) rfl T.g_BOUND ⟨_, rfl⟩)) (v_ 0) (pe_glob (v := .int 1000000000000000000000000000000) rfl T.g_BOUND ⟨_, rfl⟩)))), ?_⟩
  refine ⟨_, rfl, ?_⟩
  unfold inB at q
  refine ite2 (fun e => ?_) (fun e => ?_)
  · have e : decide (-1000000000000000000000000000000 ≤ i) = true := e
    rw [e, Bool.true_and] at q
    exact q
  · have e : decide (-1000000000000000000000000000000 ≤ i) = false := Bool.eq_false_iff.mpr e
    rw [e, Bool.false_and] at q
    exact q
def sp_check_name (K : PySem.W.Frag) : Sp := fun vs H Q E => ∃ z : Str, vs = [.str z] ∧ z.length ≤ 1000 ∧ Asc z ∧ (if isName z = true then ∀ H', Same H H' → Q .non H' else BadN K H z E)
theorem len_check_name {vs : List V} {H : Hp} {Q : VK} {E : XK} (h : sp_check_name K vs H Q E) : vs.length = 1 := by
  obtain ⟨_, rfl, _⟩ := h
  rfl
theorem ok_check_name {f : Addr} {fd : FuncData} {f_is_name : Addr} {fd_is_name : FuncData} {f_BadName : Addr} {fd_BadName : FuncData} (F : Fun K "check_name" "check_name" s_check_name f fd) (T : Gs K mg t_BOUND t_LETTERS t_LONGEST_NAME a_ALWAYS a_NEVER a_OPPOSITES a_RESERVED a_SIGNS a_BadName a_BadNumber a_BadSign a_Condition a_ElseputError a_TooLarge) (c_is_name : Cal P w K mg base CX0 1 "is_name" f_is_name fd_is_name ["text"] (sp_is_name K)) (c_BadName : CalE P w K mg base 1 "BadName" a_BadName f_BadName fd_BadName ["self", "name"] okx_BadName fs_BadName ["name"]) : FnOk P w K mg base (L2.CX P w) 3 f fd ["text"] (sp_check_name K) := by
  refine F.okX sc_check_name (fun vs H Q E h => len_check_name h) (fun cdv A outer s H vs Q E hr h => ?_)
  obtain ⟨z, rfl, h0, h1, q⟩ := h
  refine ⟨_, (pss_one (ps_if (pt_not (pt_t K (pe_call c_is_name.G (hr.mono (by first | decide | omega)) rfl c_is_name.m c_is_name.kp c_is_name.b .nil pass0 (pa_cons (v_ 0) pa_nil)))) (pss_one (ps_raise rfl (takes_of rfl rfl rfl rfl) (pmk_oex c_BadName.X.oex c_BadName.X.iC c_BadName.X.tI c_BadName.G (hr.mono (by first | decide | omega)) c_BadName.b .nil pass0 rfl c_BadName.m (pa_cons (v_ 0) pa_nil)))) pss_nil)), ?_⟩
  refine ⟨z, rfl, h0, fun H' s => ?_⟩
  refine ite2 (fun e => ?_) (fun e => ?_)
  · have e : ¬ isName z = true := by
      have e : (!isName z) = true := e
      rw [Bool.not_eq_true'] at e
      rw [e]
      decide
    rw [if_neg e] at q
    refine mk_spE (by show 1 ≤ 1000; decide) ⟨z, rfl, h0, h1⟩ (fun d nd => ?_)
    exact q a_BadName d _ T.n_BadName (s.trans (same_new nd)) (Same.free s nd) upd_same
  · have e : isName z = true := by
      have e : ¬ (!isName z) = true := e
      rw [Bool.not_eq_true, Bool.not_eq_false'] at e
      exact e
    rw [if_pos e] at q
    exact q H' s
def sp_check_number (K : PySem.W.Frag) : Sp := fun vs H Q E => ∃ i : Int, vs = [.int i] ∧ i.natAbs < 2 ^ 200 ∧ (if inB i = true then Q .non H else BadI K H i E)
theorem len_check_number {vs : List V} {H : Hp} {Q : VK} {E : XK} (h : sp_check_number K vs H Q E) : vs.length = 1 := by
  obtain ⟨_, rfl, _⟩ := h
  rfl
theorem ok_check_number {f : Addr} {fd : FuncData} {f_in_bound : Addr} {fd_in_bound : FuncData} {f_BadNumber : Addr} {fd_BadNumber : FuncData} (F : Fun K "check_number" "check_number" s_check_number f fd) (T : Gs K mg t_BOUND t_LETTERS t_LONGEST_NAME a_ALWAYS a_NEVER a_OPPOSITES a_RESERVED a_SIGNS a_BadName a_BadNumber a_BadSign a_Condition a_ElseputError a_TooLarge) (c_in_bound : Cal P w K mg base CX0 1 "in_bound" f_in_bound fd_in_bound ["value"] (sp_in_bound K)) (c_BadNumber : CalE P w K mg base 1 "BadNumber" a_BadNumber f_BadNumber fd_BadNumber ["self", "value"] okx_BadNumber fs_BadNumber ["value"]) : FnOk P w K mg base (L2.CX P w) 3 f fd ["value"] (sp_check_number K) := by
  refine F.okX sc_check_number (fun vs H Q E h => len_check_number h) (fun cdv A outer s H vs Q E hr h => ?_)
  obtain ⟨i, rfl, h0, q⟩ := h
  refine ⟨_, (pss_one (ps_if (pt_not (pt_t K (pe_call c_in_bound.G (hr.mono (by first | decide | omega)) rfl c_in_bound.m c_in_bound.kp c_in_bound.b .nil pass0 (pa_cons (v_ 0) pa_nil)))) (pss_one (ps_raise rfl (takes_of rfl rfl rfl rfl) (pmk_oex c_BadNumber.X.oex c_BadNumber.X.iC c_BadNumber.X.tI c_BadNumber.G (hr.mono (by first | decide | omega)) c_BadNumber.b .nil pass0 rfl c_BadNumber.m (pa_cons (v_ 0) pa_nil)))) pss_nil)), ?_⟩
  refine ⟨i, rfl, ?_⟩
  refine ite2 (fun e => ?_) (fun e => ?_)
  · have e : ¬ inB i = true := by
      have e : (!inB i) = true := e
      rw [Bool.not_eq_true'] at e
      rw [e]
      decide
    rw [if_neg e] at q
    refine mk_spE (by show 1 ≤ 1000; decide) ⟨i, rfl, h0⟩ (fun d nd => ?_)
    exact q a_BadNumber d _ T.n_BadNumber (same_new nd) nd upd_same
  · have e : inB i = true := by
      have e : ¬ (!inB i) = true := e
      rw [Bool.not_eq_true, Bool.not_eq_false'] at e
      exact e
    rw [if_pos e] at q
    exact q
end
section
variable {P : Program} {w : World} {K : PySem.W.Frag} {mg : Str → Option Value} {base : Heap}
variable {t_BOUND t_LETTERS t_LONGEST_NAME : Tok} {a_ALWAYS a_NEVER a_OPPOSITES a_RESERVED a_SIGNS a_BadName a_BadNumber a_BadSign a_Condition a_ElseputError a_TooLarge : Addr}
theorem inV_str {z : Str} : ∀ {xs : List Str}, inV (.str z) (xs.map V.str) = decide (z ∈ xs)
  | [] => rfl
  | a :: r => by
    have ih := inV_str (z := z) (xs := r)
    unfold inV at ih ⊢
    rw [List.map_cons, List.any_cons, ih]
    have : eqV (.str a) (.str z) = decide (z = a) := by
      show (a == z) = _
      rw [Bool.eq_iff_iff, beq_iff_eq, decide_eq_true_iff, eq_comm]
    rw [this, Bool.eq_iff_iff, Bool.or_eq_true, decide_eq_true_iff, decide_eq_true_iff, decide_eq_true_iff, List.mem_cons]
theorem flat_strs {xs : List Str} : (xs.map V.str).all flatV = true := by
  rw [List.all_map]
  exact List.all_eq_true.mpr fun _ _ => rfl
def sp__law_draw (K : PySem.W.Frag) : Sp := fun vs H Q _ => ∃ (st scr : Addr) (many : Int), vs = [.ref st, .int many] ∧ DrAt H st scr ∧ 0 < many ∧ many.natAbs < 2 ^ 200 ∧
  ∀ (r : Int) (l : List V), 0 ≤ r → r < many → DrAt (upd H st (.lst l)) st scr → Q (.int r) (upd H st (.lst l))
theorem len__law_draw {vs : List V} {H : Hp} {Q : VK} {E : XK} (h : sp__law_draw K vs H Q E) : vs.length = 2 := by
  obtain ⟨_, _, _, rfl, _⟩ := h
  rfl
theorem ok__law_draw {f : Addr} {fd : FuncData} (F : Fun K "_law_draw" "_law_draw" s__law_draw f fd) (T : Gs K mg t_BOUND t_LETTERS t_LONGEST_NAME a_ALWAYS a_NEVER a_OPPOSITES a_RESERVED a_SIGNS a_BadName a_BadNumber a_BadSign a_Condition a_ElseputError a_TooLarge) : FnOk P w K mg base CX0 1 f fd ["_law_state_here", "_law_many"] (sp__law_draw K) := by
  refine F.ok sc__law_draw (fun vs H Q E h => len__law_draw h) (fun cdv A outer s H vs Q E hr h => ?_)
  obtain ⟨st, scr, many, rfl, ⟨ns, i, v, m, c, hst, hscr, hl, h0⟩, hm0, hm1, q⟩ := h
  have hne := DrAt.ne hst hscr
  refine ⟨_, (Evl.pss_cut (ps_if (pt_c (eqK K hr.units) (e_x K (v_ 0) pe_int) pe_int) (pss_cons (ps_if (pt_c op_geM (e_x K (v_ 0) pe_int) (pe_callB (lenK K) (by rfl) T.z_len PySem.boot_len (pa_cons (e_x K (v_ 0) pe_int) pa_nil))) (pss_one (ps_ret pe_int)) pss_nil) (pss_cons (ps_asg (pe_callTy call_intM (by rfl) T.z_int (by decide +kernel) (pa_cons (e_x K (e_x K (v_ 0) pe_int) (e_x K (v_ 0) pe_int)) pa_nil)) (pg_sub (v_ 0) pe_int set_list)) (pss_cons (ps_asg (pe_op (addK K) (e_x K (v_ 0) pe_int) pe_int) (pg_sub (v_ 0) pe_int set_list)) (pss_cons (ps_asg pe_int (pg_sub (v_ 0) pe_int set_list)) (pss_cons (ps_asg pe_int (pg_sub (v_ 0) pe_int set_list)) (pss_one (ps_if (pt_c op_ltM (e_x K (v_ 0) pe_int) (pe_op op_powM pe_int pe_int)) (pss_one (ps_asg pe_int (pg_sub (v_ 0) pe_int set_list))) pss_nil))))))) pss_nil) (pss_cons (ps_asg (pe_op (addK K) (e_x K (v_ 0) pe_int) pe_int) (pg_sub (v_ 0) pe_int set_list)) (pss_cons (ps_if (pt_c (eqK K hr.units) (e_x K (v_ 0) pe_int) pe_int) (pss_cons (ps_set (i := 5) sc__law_draw.nd rfl (.inl rfl) (pe_op op_modM (pe_callTy call_intM (by rfl) T.z_int (by decide +kernel) (pa_cons (e_x K (v_ 0) pe_int) pa_nil)) (v_ 1))) (pss_cons (ps_asg (pe_op op_divM (pe_callTy call_intM (by rfl) T.z_int (by decide +kernel) (pa_cons (e_x K (v_ 0) pe_int) pa_nil)) (v_ 1)) (pg_sub (v_ 0) pe_int set_list)) (Evl.pss_cut (ps_if (PW.pt (pw_or (pt_c (eqK K hr.units) (e_x K (v_ 0) pe_int) pe_int) (pw_or1 (pt_c op_geM (e_x K (v_ 0) pe_int) pe_int)))) (pss_one (ps_asg pe_int (pg_sub (v_ 0) pe_int set_list))) pss_nil) (pss_one (ps_ret (v_ 5)))))) pss_nil) (pss_cons (ps_set (i := 2) sc__law_draw.nd rfl (.inl rfl) (pe_op op_modM (pe_callTy call_intM (by rfl) T.z_int (by decide +kernel) (pa_cons (pe_op (addK K) (pe_op op_mulSM (e_x K (v_ 0) pe_int) pe_int) (pe_op op_mulSM (e_x K (v_ 0) pe_int) pe_int)) pa_nil)) pe_int)) (pss_cons (ps_set (i := 3) sc__law_draw.nd rfl (.inl rfl) (pe_op op_modM (pe_callTy call_intM (by rfl) T.z_int (by decide +kernel) (pa_cons (pe_op (addK K) (pe_op (addK K) (pe_op op_mulSM (v_ 2) (v_ 2)) (pe_op op_mulSM (e_x K (v_ 0) pe_int) pe_int)) pe_int) pa_nil)) pe_int)) (Evl.pss_cut (ps_if (pt_c op_geM (e_x K (v_ 0) pe_int) pe_int) (pss_one (ps_asg pe_int (pg_sub (v_ 0) pe_int set_list))) pss_nil) (pss_cons (ps_set (i := 4) sc__law_draw.nd rfl (.inl rfl) (pe_op op_modM (pe_callTy call_intM (by rfl) T.z_int (by decide +kernel) (pa_cons (pe_op (addK K) (pe_op op_mulSM (v_ 3) pe_int) (v_ 2)) pa_nil)) pe_int)) (pss_one (ps_ret (pe_op op_modM (pe_callTy call_intM (by rfl) T.z_int (by decide +kernel) (pa_cons (v_ 4) pa_nil)) (v_ 1))))))))))), ?_⟩
  refine ⟨fun σ' H' => σ' = [some (.ref st), some (.int many), none, none, none, none] ∧ ∃ i v m c, H' = upd H st (.lst (stv scr i v m c)) ∧ 0 ≤ i, ?_, ?_⟩
  · refine ⟨_, .inl (SqL.of hst), _, rfl, ?_⟩
    refine ite2 (fun e => ?_) (fun e => ?_)
    · refine ⟨_, .inl (SqL.of hst), _, rfl, _, .inl (SqL.of hst), _, rfl, .inl ⟨_, .inl (SqL.of hscr), ?_⟩⟩
      refine ite2 (fun e1 => ?_) (fun e1 => ?_)
      · have z := q 0 (stv scr i v m c) (by omega) hm0 (DrAt.upd hst hscr hl h0)
        rw [upd_id hst] at z
        exact z
      · have e2 := of_decide_eq_false (Bool.eq_false_iff.mpr e1)
        rw [List.length_map] at e2
        obtain ⟨z, hz⟩ : ∃ z, atI (ns.map V.int) i = some (.int z) := by
          have hi : i.toNat < ns.length := by omega
          refine ⟨ns[i.toNat], ?_⟩
          have hq : atI (ns.map V.int) ((i.toNat : Nat) : Int) = some (.int ns[i.toNat]) := atI_nat (by rw [List.getElem?_map, List.getElem?_eq_getElem hi]; rfl)
          rwa [show ((i.toNat : Nat) : Int) = i by omega] at hq
        refine ⟨_, .inl (SqL.of hst), _, rfl, _, .inl (SqL.of hst), _, rfl, _, .inl (SqL.of hscr), _, hz, ?_⟩
        refine ⟨_, _, _, 2, rfl, rfl, hst, rfl, ?_⟩
        refine ⟨_, .inl (SqL.of upd_same), _, rfl, ?_⟩
        refine ⟨_, _, _, 1, rfl, rfl, upd_same, rfl, ?_⟩
        refine ⟨_, _, _, 3, rfl, rfl, upd_same, rfl, ?_⟩
        refine ⟨_, _, _, 4, rfl, rfl, upd_same, rfl, ?_⟩
        refine ⟨_, .inl (SqL.of upd_same), _, rfl, (by unfold CPow; decide), ?_⟩
        refine ite2 (fun e3 => ?_) (fun e3 => ?_)
        · refine ⟨_, _, _, 3, rfl, rfl, upd_same, rfl, rfl, i + 1, z, 2, 0, ?_, by omega⟩
          rw [upd_upd, upd_upd, upd_upd, upd_upd]
          rfl
        · refine ⟨rfl, i + 1, z, 1, 0, ?_, by omega⟩
          rw [upd_upd, upd_upd, upd_upd]
          rfl
    · exact ⟨rfl, i, v, m, c, (upd_id hst).symm, h0⟩
  · rintro σ' H' ⟨rfl, i, v, m, c, rfl, h0⟩
    have hscr' : ∀ o, upd H st o scr = some (.lst (ns.map V.int)) := fun o => by rw [upd_ne hne]; exact hscr
    refine ⟨_, .inl (SqL.of upd_same), _, rfl, ?_⟩
    refine ⟨_, _, _, 4, rfl, rfl, upd_same, rfl, ?_⟩
    rw [upd_upd]
    refine ⟨_, .inl (SqL.of upd_same), _, rfl, ?_⟩
    refine ite2 (fun e => ?_) (fun e => ?_)
    · refine ⟨_, .inl (SqL.of upd_same), _, rfl, hm0, ?_⟩
      refine ⟨_, .inl (SqL.of upd_same), _, rfl, .inr (wide_div hm0 (b := 200) hm1 (by decide) (by decide)), ?_⟩
      refine ⟨_, _, _, 2, rfl, rfl, upd_same, rfl, ?_⟩
      rw [upd_upd]
      have fin : ∀ m' : Int, Q (.int (v % many)) (upd H st (.lst (stv scr i (v / many) m' (c + 1)))) := fun m' => q _ _ (Int.emod_nonneg _ (by omega)) (Int.emod_lt_of_pos _ hm0) (DrAt.upd hst hscr hl h0)
      refine ⟨fun σ' H' => σ' = [some (.ref st), some (.int many), none, none, none, some (.int (v % many))] ∧ ∃ m', H' = upd H st (.lst (stv scr i (v / many) m' (c + 1))), ?_, ?_⟩
      · refine ⟨_, .inl (SqL.of upd_same), _, rfl, ?_⟩
        refine ite2 (fun e1 => ?_) (fun e1 => ?_)
        · refine ⟨_, _, _, 3, rfl, rfl, upd_same, rfl, rfl, 0, ?_⟩
          rw [upd_upd]
          rfl
        · refine ⟨_, .inl (SqL.of upd_same), _, rfl, ?_⟩
          refine ite2 (fun e1 => ?_) (fun e1 => ?_)
          · refine ⟨_, _, _, 3, rfl, rfl, upd_same, rfl, rfl, 0, ?_⟩
            rw [upd_upd]
            rfl
          · exact ⟨rfl, m, rfl⟩
      · rintro σ' H' ⟨rfl, m', rfl⟩
        exact fin m'
    · refine ⟨_, .inl (SqL.of upd_same), _, rfl, .inl (.inr ⟨by decide, by decide⟩), ?_⟩
      refine ⟨_, .inl (SqL.of upd_same), _, rfl, .inl (.inr ⟨by decide, by decide⟩), (by decide), ?_⟩
      have f0 := Int.emod_nonneg (v * 48271 + (c + 1) * 69621) (by decide : (2147483647 : Int) ≠ 0)
      have f1 := Int.emod_lt_of_pos (v * 48271 + (c + 1) * 69621) (by decide : (0 : Int) < 2147483647)
      refine ⟨.inl (.inl ⟨by omega, by omega⟩), ?_⟩
      refine ⟨_, .inl (SqL.of upd_same), _, rfl, .inl (.inr ⟨by decide, by decide⟩), (by decide), ?_⟩
      have fin : ∀ (m' x : Int), Q (.int (x % many)) (upd H st (.lst (stv scr i v m' (c + 1)))) := fun m' x => q _ _ (Int.emod_nonneg _ (by omega)) (Int.emod_lt_of_pos _ hm0) (DrAt.upd hst hscr hl h0)
      refine ⟨fun σ' H' => (∃ a b, σ' = [some (.ref st), some (.int many), some (.int a), some (.int b), none, none]) ∧ ∃ m', H' = upd H st (.lst (stv scr i v m' (c + 1))), ?_, ?_⟩
      · refine ⟨_, .inl (SqL.of upd_same), _, rfl, ?_⟩
        refine ite2 (fun e1 => ?_) (fun e1 => ?_)
        · refine ⟨_, _, _, 3, rfl, rfl, upd_same, rfl, ⟨_, _, rfl⟩, 0, ?_⟩
          rw [upd_upd]
          rfl
        · exact ⟨⟨_, _, rfl⟩, m, rfl⟩
      · rintro σ' H' ⟨⟨a, b, rfl⟩, m', rfl⟩
        refine ⟨.inl (.inr ⟨by decide, by decide⟩), (by decide), hm0, ?_⟩
        exact fin m' _

/-! ### _law_state -/
def sp__law_state (K : PySem.W.Frag) : Sp := fun vs H Q _ => ∃ (a : Addr) (ns : List Int), vs = [.ref a] ∧ SqL K H a (ns.map V.int) ∧ ns.length ≤ 63 ∧
  ∀ (H' : Hp) (st scr : Addr), Same H H' → H st = none → H scr = none → DrAt H' st scr → Q (.ref st) H'
theorem len__law_state {vs : List V} {H : Hp} {Q : VK} {E : XK} (h : sp__law_state K vs H Q E) : vs.length = 1 := by
  obtain ⟨_, _, rfl, _⟩ := h
  rfl
theorem ok__law_state {f : Addr} {fd : FuncData} (F : Fun K "_law_state" "_law_state" s__law_state f fd) (T : Gs K mg t_BOUND t_LETTERS t_LONGEST_NAME a_ALWAYS a_NEVER a_OPPOSITES a_RESERVED a_SIGNS a_BadName a_BadNumber a_BadSign a_Condition a_ElseputError a_TooLarge) : FnOk P w K mg base CX0 1 f fd ["_law_script"] (sp__law_state K) := by
  refine F.ok sc__law_state (fun vs H Q E h => len__law_state h) (fun cdv A outer s H vs Q E hr h => ?_)
  obtain ⟨a, ns, rfl, hS, hl, q⟩ := h
  refine ⟨_, (pss_one (ps_ret (pe_lst (pa_cons (pe_callTy (listK K) (by rfl) T.z_list (by decide +kernel) (pa_cons (v_ 0) pa_nil)) (pa_cons pe_int (pa_cons pe_int (pa_cons pe_int (pa_cons pe_int pa_nil)))))))), ?_⟩
  refine ⟨_, _, rfl, .inl hS, fun l nl => ?_⟩
  refine ⟨(by show 5 ≤ sizeLine; decide), fun st nst => ?_⟩
  have hne := new_ne nst
  refine q _ st l ((same_new nl).trans (same_new nst)) (free_new nst) nl ⟨ns, 0, 0, 0, 0, upd_same, ?_, hl, by omega⟩
  rw [upd_ne hne.symm, upd_same]

/-! ### _law_pick -/
theorem at_list {α : Type} {xs : List α} {r : Int} (h0 : 0 ≤ r) (h1 : r < xs.length) : ∃ x, atI xs r = some x ∧ x ∈ xs := by
  have hi : r.toNat < xs.length := by omega
  refine ⟨xs[r.toNat], ?_, List.getElem_mem hi⟩
  have hq : atI xs ((r.toNat : Nat) : Int) = some xs[r.toNat] := atI_nat (List.getElem?_eq_getElem hi)
  rwa [show ((r.toNat : Nat) : Int) = r by omega] at hq
theorem at_str {z : Str} {r : Int} (h0 : 0 ≤ r) (h1 : r < z.length) : ∃ c, atI z.cps.toList r = some c ∧ c ∈ z.cps.toList := at_list h0 (by rw [len_cps]; exact h1)
theorem many_small {m : Int} (h0 : 0 < m) (h1 : m ≤ 1000000000) : m.natAbs < 2 ^ 200 := Nat.lt_of_le_of_lt (show m.natAbs ≤ 2 ^ 30 by omega) (Nat.pow_lt_pow_right (by decide) (by decide))
def sp__law_pick (K : PySem.W.Frag) : Sp := fun vs H Q _ => ∃ (st scr : Addr) (v : V), vs = [.ref st, v] ∧ DrAt H st scr ∧
  ((∃ z : Str, v = .str z ∧ 0 < z.length ∧ z.length ≤ 1000 ∧ ∀ (c : Nat) (l : List V), c ∈ z.cps.toList → DrAt (upd H st (.lst l)) st scr → Q (.str ⟨#[c]⟩) (upd H st (.lst l))) ∨
    ∃ (p : Addr) (xs : List V), v = .ref p ∧ H p = some (.lst xs) ∧ p ≠ st ∧ 0 < xs.length ∧ xs.length ≤ 1000 ∧ ∀ (x : V) (l : List V), x ∈ xs → DrAt (upd H st (.lst l)) st scr → Q x (upd H st (.lst l)))
theorem len__law_pick {vs : List V} {H : Hp} {Q : VK} {E : XK} (h : sp__law_pick K vs H Q E) : vs.length = 2 := by
  obtain ⟨_, _, _, rfl, _⟩ := h
  rfl
theorem ok__law_pick {f : Addr} {fd : FuncData} {f__law_draw : Addr} {fd__law_draw : FuncData} (F : Fun K "_law_pick" "_law_pick" s__law_pick f fd) (T : Gs K mg t_BOUND t_LETTERS t_LONGEST_NAME a_ALWAYS a_NEVER a_OPPOSITES a_RESERVED a_SIGNS a_BadName a_BadNumber a_BadSign a_Condition a_ElseputError a_TooLarge) (c__law_draw : Cal P w K mg base CX0 1 "_law_draw" f__law_draw fd__law_draw ["_law_state_here", "_law_many"] (sp__law_draw K)) : FnOk P w K mg base CX0 2 f fd ["_law_state_here", "_law_row"] (sp__law_pick K) := by
  refine F.ok sc__law_pick (fun vs H Q E h => len__law_pick h) (fun cdv A outer s H vs Q E hr h => ?_)
  obtain ⟨st, scr, v, rfl, hd, h⟩ := h
  refine ⟨_, (pss_one (ps_ret (e_x K (v_ 1) (pe_call c__law_draw.G (hr.mono (by first | decide | omega)) rfl c__law_draw.m c__law_draw.kp c__law_draw.b .nil pass0 (pa_cons (v_ 0) (pa_cons (pe_callB (lenK K) (by rfl) T.z_len PySem.boot_len (pa_cons (v_ 1) pa_nil)) pa_nil)))))), ?_⟩
  rcases h with ⟨z, rfl, h0, h1, q⟩ | ⟨p, xs, rfl, hp, hne, h0, h1, q⟩
  · refine ⟨line_of (by omega), st, scr, _, rfl, hd, by omega, many_small (by omega) (by omega), fun r l r0 r1 hd' => ?_⟩
    obtain ⟨c, hc, hm⟩ := at_str r0 r1
    exact ⟨line_of (by omega), c, hc, q c l hm hd'⟩
  · refine .inl ⟨_, .inl (SqL.of hp), st, scr, _, rfl, hd, by omega, many_small (by omega) (by omega), fun r l r0 r1 hd' => ?_⟩
    obtain ⟨x, hx, hm⟩ := at_list r0 r1
    exact ⟨_, .inl (SqL.of (by rw [upd_ne hne]; exact hp)), x, hx, q x l hm hd'⟩

end
section
variable {P : Program} {w : World} {K : PySem.W.Frag} {mg : Str → Option Value} {base : Heap}
variable {t_BOUND t_LETTERS t_LONGEST_NAME : Tok} {a_ALWAYS a_NEVER a_OPPOSITES a_RESERVED a_SIGNS a_BadName a_BadNumber a_BadSign a_Condition a_ElseputError a_TooLarge : Addr}
def Bd (i : Int) : Prop := -1000000000000000000000000000000 ≤ i ∧ i ≤ 1000000000000000000000000000000
def sp__law_number (K : PySem.W.Frag) : Sp := fun vs H Q _ => ∃ (st scr : Addr), vs = [.ref st] ∧ DrAt H st scr ∧ ∀ (l : List V) (i : Int), Bd i → DrAt (upd H st (.lst l)) st scr → Q (.int i) (upd H st (.lst l))
theorem len__law_number {vs : List V} {H : Hp} {Q : VK} {E : XK} (h : sp__law_number K vs H Q E) : vs.length = 1 := by
  obtain ⟨_, _, rfl, _⟩ := h
  rfl
theorem p30 : (10 : Int) ^ (30 : Int).toNat = 1000000000000000000000000000000 := by decide +kernel
theorem ok__law_number {f : Addr} {fd : FuncData} {f__law_draw : Addr} {fd__law_draw : FuncData} (F : Fun K "_law_number" "_law_number" s__law_number f fd) (T : Gs K mg t_BOUND t_LETTERS t_LONGEST_NAME a_ALWAYS a_NEVER a_OPPOSITES a_RESERVED a_SIGNS a_BadName a_BadNumber a_BadSign a_Condition a_ElseputError a_TooLarge) (c__law_draw : Cal P w K mg base CX0 1 "_law_draw" f__law_draw fd__law_draw ["_law_state_here", "_law_many"] (sp__law_draw K)) : FnOk P w K mg base CX0 2 f fd ["_law_state_here"] (sp__law_number K) := by
  refine F.ok sc__law_number (fun vs H Q E h => len__law_number h) (fun cdv A outer s H vs Q E hr h => ?_)
  obtain ⟨st, scr, rfl, hd, q⟩ := h
  refine ⟨_, (pss_cons (ps_set (i := 1) sc__law_number.nd rfl (.inl rfl) (pe_call c__law_draw.G (hr.mono (by first | decide | omega)) rfl c__law_draw.m c__law_draw.kp c__law_draw.b .nil pass0 (pa_cons (v_ 0) (pa_cons pe_int pa_nil)))) (pss_cons (ps_if (pt_c op_ltM (v_ 1) pe_int) (pss_one (ps_ret (pe_op op_subM (pe_call c__law_draw.G (hr.mono (by first | decide | omega)) rfl c__law_draw.m c__law_draw.kp c__law_draw.b .nil pass0 (pa_cons (v_ 0) (pa_cons pe_int pa_nil))) pe_int))) pss_nil) (pss_cons (ps_if (pt_c (eqK K hr.units) (v_ 1) pe_int) (pss_one (ps_ret (pe_op op_subM (pe_call c__law_draw.G (hr.mono (by first | decide | omega)) rfl c__law_draw.m c__law_draw.kp c__law_draw.b .nil pass0 (pa_cons (v_ 0) (pa_cons pe_int pa_nil))) pe_int))) pss_nil) (pss_cons (ps_if (pt_c (eqK K hr.units) (v_ 1) pe_int) (pss_one (ps_ret (pe_op op_subM (pe_op op_powM pe_int pe_int) (pe_call c__law_draw.G (hr.mono (by first | decide | omega)) rfl c__law_draw.m c__law_draw.kp c__law_draw.b .nil pass0 (pa_cons (v_ 0) (pa_cons pe_int pa_nil)))))) pss_nil) (pss_cons (ps_if (pt_c (eqK K hr.units) (v_ 1) pe_int) (pss_one (ps_ret (pe_op op_subM (pe_call c__law_draw.G (hr.mono (by first | decide | omega)) rfl c__law_draw.m c__law_draw.kp c__law_draw.b .nil pass0 (pa_cons (v_ 0) (pa_cons pe_int pa_nil))) (pe_op op_powM pe_int pe_int)))) pss_nil) (pss_one (ps_ret (pe_op op_subM (pe_call c__law_draw.G (hr.mono (by first | decide | omega)) rfl c__law_draw.m c__law_draw.kp c__law_draw.b .nil pass0 (pa_cons (v_ 0) (pa_cons (pe_op (addK K) (pe_op op_mulSM pe_int (pe_op op_powM pe_int pe_int)) pe_int) pa_nil))) (pe_op op_powM pe_int pe_int))))))))), ?_⟩
  refine ⟨st, scr, _, rfl, hd, by decide, many_small (by decide) (by decide), fun kd l _ _ hd1 => ?_⟩
  have q : ∀ (l2 : List V) (i : Int), Bd i → DrAt (upd (upd H st (.lst l)) st (.lst l2)) st scr → Q (.int i) (upd (upd H st (.lst l)) st (.lst l2)) := fun l2 i b d => by
    rw [upd_upd] at d ⊢
    exact q l2 i b d
  generalize upd H st (.lst l) = H1 at hd1 q ⊢
  refine ite2 (fun e => ?_) (fun e => ?_)
  · refine ⟨st, scr, _, rfl, hd1, by decide, many_small (by decide) (by decide), fun r l2 r0 r1 hd2 => ?_⟩
    exact q l2 _ (by unfold Bd; omega) hd2
  refine ite2 (fun e => ?_) (fun e => ?_)
  · refine ⟨st, scr, _, rfl, hd1, by decide, many_small (by decide) (by decide), fun r l2 r0 r1 hd2 => ?_⟩
    exact q l2 _ (by unfold Bd; omega) hd2
  refine ite2 (fun e => ?_) (fun e => ?_)
  · refine ⟨(by unfold CPow; decide), ?_⟩
    refine ⟨st, scr, _, rfl, hd1, by decide, many_small (by decide) (by decide), fun r l2 r0 r1 hd2 => ?_⟩
    rw [p30]
    exact q l2 _ (by unfold Bd; omega) hd2
  refine ite2 (fun e => ?_) (fun e => ?_)
  · refine ⟨st, scr, _, rfl, hd1, by decide, many_small (by decide) (by decide), fun r l2 r0 r1 hd2 => ?_⟩
    refine ⟨(by unfold CPow; decide), ?_⟩
    rw [p30]
    exact q l2 _ (by unfold Bd; omega) hd2
  refine ⟨(by unfold CPow; decide), ?_⟩
  rw [p30]
  refine ⟨.inl (.inl ⟨by decide, by decide⟩), ?_⟩
  refine ⟨st, scr, _, rfl, hd1, by decide, by decide +kernel, fun r l2 r0 r1 hd2 => ?_⟩
  refine ⟨(by unfold CPow; decide), ?_⟩
  rw [p30]
  exact q l2 _ (by unfold Bd; omega) hd2
def sp__law_constant (K : PySem.W.Frag) : Sp := sp__law_number K
theorem len__law_constant {vs : List V} {H : Hp} {Q : VK} {E : XK} (h : sp__law_constant K vs H Q E) : vs.length = 1 := len__law_number h
theorem ok__law_constant {f : Addr} {fd : FuncData} {f__law_number : Addr} {fd__law_number : FuncData} {f__law_draw : Addr} {fd__law_draw : FuncData} (F : Fun K "_law_constant" "_law_constant" s__law_constant f fd) (T : Gs K mg t_BOUND t_LETTERS t_LONGEST_NAME a_ALWAYS a_NEVER a_OPPOSITES a_RESERVED a_SIGNS a_BadName a_BadNumber a_BadSign a_Condition a_ElseputError a_TooLarge) (c__law_number : Cal P w K mg base CX0 2 "_law_number" f__law_number fd__law_number ["_law_state_here"] (sp__law_number K)) (c__law_draw : Cal P w K mg base CX0 1 "_law_draw" f__law_draw fd__law_draw ["_law_state_here", "_law_many"] (sp__law_draw K)) : FnOk P w K mg base CX0 3 f fd ["_law_state_here"] (sp__law_constant K) := by
  refine F.ok sc__law_constant (fun vs H Q E h => len__law_constant h) (fun cdv A outer s H vs Q E hr h => ?_)
  obtain ⟨st, scr, rfl, hd, q⟩ := h
  refine ⟨_, (pss_cons (ps_if (pt_c op_ltM (pe_call c__law_draw.G (hr.mono (by first | decide | omega)) rfl c__law_draw.m c__law_draw.kp c__law_draw.b .nil pass0 (pa_cons (v_ 0) (pa_cons pe_int pa_nil))) pe_int) (pss_one (ps_ret (pe_op op_subM (pe_call c__law_draw.G (hr.mono (by first | decide | omega)) rfl c__law_draw.m c__law_draw.kp c__law_draw.b .nil pass0 (pa_cons (v_ 0) (pa_cons pe_int pa_nil))) pe_int))) pss_nil) (pss_one (ps_ret (pe_call c__law_number.G (hr.mono (by first | decide | omega)) rfl c__law_number.m c__law_number.kp c__law_number.b .nil pass0 (pa_cons (v_ 0) pa_nil))))), ?_⟩
  refine ⟨st, scr, _, rfl, hd, by decide, many_small (by decide) (by decide), fun kd l _ _ hd1 => ?_⟩
  have q : ∀ (l2 : List V) (i : Int), Bd i → DrAt (upd (upd H st (.lst l)) st (.lst l2)) st scr → Q (.int i) (upd (upd H st (.lst l)) st (.lst l2)) := fun l2 i b d => by
    rw [upd_upd] at d ⊢
    exact q l2 i b d
  refine ite2 (fun e => ?_) (fun e => ?_)
  · refine ⟨st, scr, _, rfl, hd1, by decide, many_small (by decide) (by decide), fun r l2 r0 r1 hd2 => ?_⟩
    exact q l2 _ (by unfold Bd; omega) hd2
  · exact ⟨st, scr, rfl, hd1, fun l2 i b d => q l2 i b d⟩

/-! ### names -/
/-- small letters, of which the one at p is c -/
def Lt (z : Str) (p c : Nat) : Prop := (∀ d ∈ z.cps.toList, d ∈ letters.cps.toList) ∧ z.cps.toList[p]? = some c ∧ z.length ≤ 12
theorem Lt.name {z : Str} {p c : Nat} (h : Lt z p c) (hr : inV (.str z) resv = false) : isName z = true := by
  unfold isName
  have h0 : ¬ ((z.length : Int) < 1) := by
    have := (List.getElem?_eq_some_iff.mp h.2.1).1
    rw [len_cps] at this
    omega
  have h1 : ¬ ((12 : Int) < z.length) := by have := h.2.2; omega
  rw [decide_eq_false h0, decide_eq_false h1, hr]
  show (z.cps.toList.all fun c => decide (c ∈ letters.cps.toList)) = true
  exact List.all_eq_true.mpr fun d hd => decide_eq_true (h.1 d hd)
theorem resv_strs : resv = (["always", "never", "and", "or", "not", "when", "add", "set", "change", "tell", "refuse", "take", "look", "free", "lock", "keep", "keys", "fields"] : List Str).map V.str := rfl
theorem resv_z {z : Str} (h : inV (.str z) resv = true) : inV (.str (z ++ "z")) resv = false ∧ z.length ≤ 7 := by
  rw [resv_strs, inV_str, decide_eq_true_iff] at h
  have all : (["always", "never", "and", "or", "not", "when", "add", "set", "change", "tell", "refuse", "take", "look", "free", "lock", "keep", "keys", "fields"] : List Str).all (fun z => !inV (.str (z ++ "z")) resv && decide (z.length ≤ 7)) = true := by decide +kernel
  have := List.all_eq_true.mp all z h
  rw [Bool.and_eq_true, Bool.not_eq_true', decide_eq_true_iff] at this
  exact this
end
section
variable {P : Program} {w : World} {K : PySem.W.Frag} {mg : Str → Option Value} {base : Heap}
variable {t_BOUND t_LETTERS t_LONGEST_NAME : Tok} {a_ALWAYS a_NEVER a_OPPOSITES a_RESERVED a_SIGNS a_BadName a_BadNumber a_BadSign a_Condition a_ElseputError a_TooLarge : Addr}
theorem cutS_take (z : Str) {k : Nat} : (cutS z none (some (k : Int))).cps.toList = z.cps.toList.take k := by
  unfold cutS
  rw [List.toList_toArray, HT.sIx_nat, HT.sIx_none, List.drop_zero, Nat.sub_zero, List.take_eq_take_iff, len_cps]
  omega
theorem cutS_drop (z : Str) {k : Nat} : (cutS z (some (k : Int)) none).cps.toList = z.cps.toList.drop k := by
  unfold cutS
  rw [List.toList_toArray, HT.sIx_nat, HT.sIx_none]
  by_cases h : k ≤ z.length
  · rw [Nat.min_eq_left h, List.take_of_length_le (by rw [List.length_drop, len_cps]; omega)]
  · rw [Nat.min_eq_right (by omega), List.drop_of_length_le (by rw [len_cps]; omega), List.drop_of_length_le (by rw [len_cps]; omega), List.take_nil]
theorem letter_at {i : Int} (h0 : 0 ≤ i) (h1 : i < 26) : atI letters.cps.toList i = some (97 + i.toNat) := by
  have all : ∀ j : Fin 26, letters.cps.toList[j.val]? = some (97 + j.val) := by decide +kernel
  have := all ⟨i.toNat, by omega⟩
  have hq := atI_nat this
  rwa [show ((i.toNat : Nat) : Int) = i by omega] at hq
theorem letter_mem {i : Nat} (h1 : i < 26) : (97 + i) ∈ letters.cps.toList := by
  have all : ∀ j : Fin 26, (97 + j.val) ∈ letters.cps.toList := by decide +kernel
  exact all ⟨i, h1⟩
theorem one_len (c : Nat) : (⟨#[c]⟩ : Str).length = 1 := rfl
theorem one_cps (c : Nat) : (⟨#[c]⟩ : Str).cps.toList = [c] := rfl
theorem Lt.z {z : Str} {p c : Nat} (h : Lt z p c) (hl : z.length ≤ 7) : Lt (z ++ "z") p c := by
  refine ⟨fun d hd => ?_, ?_, ?_⟩
  · rw [cps_add] at hd
    rcases List.mem_append.mp hd with e | e
    · exact h.1 d e
    · have : d = 122 := by simpa using (show d ∈ [122] from e)
      rw [this]
      decide +kernel
  · rw [cps_add, List.getElem?_append_left (List.getElem?_eq_some_iff.mp h.2.1).1]
    exact h.2.1
  · rw [len_add]
    show z.length + 1 ≤ 12
    omega
def sp__law_names (K : PySem.W.Frag) : Sp := fun vs H Q _ => ∃ (st scr : Addr) (n : Nat), vs = [.ref st, .int n] ∧ DrAt H st scr ∧ n ≤ 26 ∧
  ∀ (H' : Hp) (p : Addr) (zs : List Str), Bt st H H' → DrAt H' st scr → H p = none → H' p = some (.lst (zs.map V.str)) → zs.length = n → (∀ z ∈ zs, isName z = true ∧ z.length ≤ 12) → zs.Nodup → Q (.ref p) H'
theorem len__law_names {vs : List V} {H : Hp} {Q : VK} {E : XK} (h : sp__law_names K vs H Q E) : vs.length = 2 := by
  obtain ⟨_, _, _, rfl, _⟩ := h
  rfl
theorem ok__law_names {f : Addr} {fd : FuncData} {f__law_draw : Addr} {fd__law_draw : FuncData} (F : Fun K "_law_names" "_law_names" s__law_names f fd) (T : Gs K mg t_BOUND t_LETTERS t_LONGEST_NAME a_ALWAYS a_NEVER a_OPPOSITES a_RESERVED a_SIGNS a_BadName a_BadNumber a_BadSign a_Condition a_ElseputError a_TooLarge) (c__law_draw : Cal P w K mg base CX0 1 "_law_draw" f__law_draw fd__law_draw ["_law_state_here", "_law_many"] (sp__law_draw K)) : FnOk P w K mg base CX0 2 f fd ["_law_state_here", "_law_many"] (sp__law_names K) := by
  refine F.ok sc__law_names (fun vs H Q E h => len__law_names h) (fun cdv A outer s H vs Q E hr h => ?_)
  obtain ⟨st, scr, n, rfl, hd, hn, q⟩ := h
  refine ⟨_, (pss_cons (ps_set (i := 2) sc__law_names.nd rfl (.inl rfl) pe_str) (pss_cons (ps_set (i := 3) sc__law_names.nd rfl (.inl rfl) (pe_call c__law_draw.G (hr.mono (by first | decide | omega)) rfl c__law_draw.m c__law_draw.kp c__law_draw.b .nil pass0 (pa_cons (v_ 0) (pa_cons pe_int pa_nil)))) (pss_cons (ps_set (i := 4) sc__law_names.nd rfl (.inl rfl) (pe_call c__law_draw.G (hr.mono (by first | decide | omega)) rfl c__law_draw.m c__law_draw.kp c__law_draw.b .nil pass0 (pa_cons (v_ 0) (pa_cons pe_int pa_nil)))) (pss_cons (ps_set (i := 5) sc__law_names.nd rfl (.inl rfl) (pe_call c__law_draw.G (hr.mono (by first | decide | omega)) rfl c__law_draw.m c__law_draw.kp c__law_draw.b .nil pass0 (pa_cons (v_ 0) (pa_cons pe_int pa_nil)))) (pss_cons (ps_set (i := 6) sc__law_names.nd rfl (.inl rfl) (pe_call c__law_draw.G (hr.mono (by first | decide | omega)) rfl c__law_draw.m c__law_draw.kp c__law_draw.b .nil pass0 (pa_cons (v_ 0) (pa_cons pe_int pa_nil)))) (pss_cons (ps_set (i := 7) sc__law_names.nd rfl (.inl rfl) pe_str) (pss_cons (ps_for PassesOwn.never rfl (pi_range1 rfl T.z_range (pa_cons pe_int pa_nil)) (pg_name (i := 8) sc__law_names.nd rfl (.inl rfl)) (pss_cons (ps_set (i := 7) sc__law_names.nd rfl (.inl rfl) (pe_op (addK K) (v_ 7) (e_x K (v_ 2) (pe_op op_modM (pe_callTy call_intM (by rfl) T.z_int (by decide +kernel) (pa_cons (v_ 5) pa_nil)) pe_int)))) (pss_one (ps_set (i := 5) sc__law_names.nd rfl (.inl rfl) (pe_op op_divM (pe_callTy call_intM (by rfl) T.z_int (by decide +kernel) (pa_cons (v_ 5) pa_nil)) pe_int))))) (pss_cons (ps_set (i := 9) sc__law_names.nd rfl (.inl rfl) (pe_lst (pa_cons pe_str (pa_cons pe_str (pa_cons pe_str (pa_cons pe_str (pa_cons pe_str (pa_cons pe_str (pa_cons pe_str (pa_cons pe_str (pa_cons pe_str (pa_cons pe_str (pa_cons pe_str (pa_cons pe_str pa_nil)))))))))))))) (pss_cons (ps_set (i := 9) sc__law_names.nd rfl (.inl rfl) (pe_op (addK K) (v_ 9) (pe_lst (pa_cons pe_str (pa_cons pe_str (pa_cons pe_str (pa_cons pe_str (pa_cons pe_str (pa_cons pe_str pa_nil))))))))) (pss_cons (ps_set (i := 10) sc__law_names.nd rfl (.inl rfl) (pe_lst pa_nil)) (pss_cons (ps_for PassesOwn.never rfl (pi_range1 rfl T.z_range (pa_cons (v_ 1) pa_nil)) (pg_name (i := 8) sc__law_names.nd rfl (.inl rfl)) (pss_cons (ps_set (i := 11) sc__law_names.nd rfl (.inl rfl) (e_x K (v_ 2) (pe_op op_modM (pe_callTy call_intM (by rfl) T.z_int (by decide +kernel) (pa_cons (pe_op (addK K) (v_ 4) (pe_op op_mulSM pe_int (v_ 8))) pa_nil)) pe_int))) (Evl.pss_cut (ps_if (pt_c (eqK K hr.units) (v_ 3) pe_int) (pss_one (ps_set (i := 11) sc__law_names.nd rfl (.inl rfl) (pe_op (addK K) (pe_op (addK K) (pe_slice (slK K) (v_ 7) po_none (po_some (v_ 6))) (v_ 11)) (pe_slice (slK K) (v_ 7) (po_some (v_ 6)) po_none)))) pss_nil) (Evl.pss_cut (ps_if (pt_c (eqK K hr.units) (v_ 3) pe_int) (pss_one (ps_set (i := 11) sc__law_names.nd rfl (.inl rfl) (pe_op (addK K) (v_ 11) (pe_slice (slK K) (v_ 7) po_none (po_some (pe_op op_modM (pe_callTy call_intM (by rfl) T.z_int (by decide +kernel) (pa_cons (pe_op (addK K) (pe_op op_mulSM pe_int (v_ 8)) (v_ 6)) pa_nil)) pe_int)))))) pss_nil) (Evl.pss_cut (ps_if (pt_c (eqK K hr.units) (v_ 3) pe_int) (pss_one (ps_set (i := 11) sc__law_names.nd rfl (.inl rfl) (pe_op (addK K) (pe_op (addK K) (pe_slice (slK K) (v_ 7) po_none (po_some pe_int)) (v_ 11)) (v_ 7)))) pss_nil) (Evl.pss_cut (ps_if (pt_c (inK K) (v_ 11) (v_ 9)) (pss_one (ps_set (i := 11) sc__law_names.nd rfl (.inl rfl) (pe_op (addK K) (v_ 11) pe_str))) pss_nil) (pss_one (ps_expr (pe_bm PySem.F.plainAttrs_list PySem.F.slot_list_append PySem.F.type_list_append mt_append (v_ 10) (pa_cons (v_ 11) pa_nil)))))))))) (pss_one (ps_ret (v_ 10)))))))))))))), ?_⟩
  refine ⟨st, scr, _, rfl, hd, by decide, many_small (by decide) (by decide), fun sty l1 s0 s1 hd1 => ?_⟩
  have b1 : Bt st H (upd H st (.lst l1)) := Bt.st
  generalize upd H st (.lst l1) = H1 at hd1 b1 ⊢
  refine ⟨st, scr, _, rfl, hd1, by decide, many_small (by decide) (by decide), fun sh l2 h0 h1 hd2 => ?_⟩
  have b2 := b1.trans (Bt.st (st := st) (o := .lst l2))
  generalize upd H1 st (.lst l2) = H2 at hd2 b2 ⊢
  refine ⟨st, scr, _, rfl, hd2, by decide, many_small (by decide) (by decide), fun cd l3 c0 c1 hd3 => ?_⟩
  have b3 := b2.trans (Bt.st (st := st) (o := .lst l3))
  generalize upd H2 st (.lst l3) = H3 at hd3 b3 ⊢
  refine ⟨st, scr, _, rfl, hd3, by decide, many_small (by decide) (by decide), fun spt l4 p0 p1 hd4 => ?_⟩
  have b4 := b3.trans (Bt.st (st := st) (o := .lst l4))
  generalize upd H3 st (.lst l4) = H4 at hd4 b4 ⊢
  refine ⟨6, rfl, by decide, by decide, ?_⟩
  refine for_range (lo := 0) (n := 6) (fun i σ' H' => ∃ (z : Str) (code : Int) (y : Option V), σ' = [some (.ref st), some (.int n), some (.str letters), some (.int sty), some (.int sh), some (.int code), some (.int spt), some (.str z), y, none, none, none] ∧ H' = H4 ∧ z.length = i ∧ ∀ d ∈ z.cps.toList, d ∈ letters.cps.toList) ?_ ?_ ?_
  · exact ⟨_, _, _, rfl, rfl, rfl, fun _ h => nomatch h⟩
  · rintro i σ' H' hi ⟨z, code, y, rfl, rfl, hz, ha⟩
    refine ⟨by decide, ?_⟩
    have r0 := Int.emod_nonneg code (by decide : (26 : Int) ≠ 0)
    have r1 := Int.emod_lt_of_pos code (by decide : (0 : Int) < 26)
    refine ⟨line_of (by decide +kernel), _, letter_at r0 r1, line_of (by rw [one_len]; omega), ?_⟩
    refine ⟨.inl ⟨by decide, by decide⟩, ?_⟩
    refine ⟨_, _, _, rfl, rfl, by rw [len_add, one_len, hz], fun d hd => ?_⟩
    rw [cps_add, one_cps] at hd
    rcases List.mem_append.mp hd with h | h
    · exact ha d h
    · rw [List.mem_singleton.mp h]
      exact letter_mem (by omega)
  rintro σ' H' ⟨bs, code, y, rfl, rfl, hz, ha⟩
  have hbl : bs.cps.toList.length = 6 := by rw [len_cps]; exact hz
  refine ⟨(by show 12 ≤ sizeLine; decide), fun o no => ?_⟩
  refine ⟨(by show 6 ≤ sizeLine; decide), fun p np => ?_⟩
  have hpo := new_ne np
  refine .inl ⟨_, _, (by rw [upd_ne hpo.symm, upd_same]), upd_same, (by show 18 ≤ sizeLine; decide), fun rv nrv => ?_⟩
  have sm := ((same_new (o := .lst [.str "always", .str "never", .str "and", .str "or", .str "not", .str "when", .str "add", .str "set", .str "change", .str "tell", .str "refuse", .str "take"]) no).trans (same_new (o := .lst [.str "look", .str "free", .str "lock", .str "keep", .str "keys", .str "fields"]) np)).trans (same_new (o := .lst resv) nrv)
  generalize hH5 : upd _ rv _ = H5
  have hrv : H5 rv = some (.lst resv) := by rw [← hH5]; exact upd_same
  have hd5 : DrAt H5 st scr := by rw [← hH5]; exact hd4.new sm
  have b5 : Bt st H H5 := by rw [← hH5]; exact b4.trans (Bt.same (st := st) sm)
  clear hH5
  refine ⟨Nat.zero_le _, fun L nL => ?_⟩
  generalize hH6 : upd _ L _ = H6
  have hrv2 : H6 rv = some (.lst resv) := by rw [← hH6]; exact same_new nL _ _ hrv
  have hd6 : DrAt H6 st scr := by rw [← hH6]; exact hd5.new (same_new nL)
  have b6 : Bt st H H6 := by rw [← hH6]; exact b5.trans (Bt.same (st := st) (same_new nL))
  have L0 : H L = none := b5.free (hd5.ne_new nL) nL
  have eL : H6 L = some (.lst []) := by rw [← hH6]; exact upd_same
  have Ls : L ≠ st := hd5.ne_new nL
  have Lc : L ≠ scr := hd5.ne_scr nL
  have Lrv : rv ≠ L := ne_of_none hrv nL
  clear hH6
  refine ⟨n, rfl, by omega, by omega, ?_⟩
  obtain ⟨ps, hps⟩ : ∃ ps : Nat, ps = if sty = 1 then spt.toNat else if sty = 3 then 5 else 0 := ⟨_, rfl⟩
  refine for_range (lo := 0) (n := n) (fun i σ' H' => ∃ (y z : Option V) (zs : List Str), σ' = [some (.ref st), some (.int n), some (.str letters), some (.int sty), some (.int sh), some (.int code), some (.int spt), some (.str bs), y, some (.ref rv), some (.ref L), z] ∧ H' = upd H6 L (.lst (zs.map V.str)) ∧ zs.length = i ∧
    ∀ (j : Nat) (z : Str), zs[j]? = some z → Lt z ps (97 + ((sh + 7 * (j : Int)) % 26).toNat) ∧ inV (.str z) resv = false) ?_ ?_ ?_
  · exact ⟨_, _, [], rfl, (upd_id eL).symm, rfl, fun j z h => nomatch h⟩
  · rintro i σ' H' hi ⟨y, z, zs, rfl, rfl, hzl, hzs⟩
    have r0 := Int.emod_nonneg (sh + 7 * (0 + (i : Int))) (by decide : (26 : Int) ≠ 0)
    have r1 := Int.emod_lt_of_pos (sh + 7 * (0 + (i : Int))) (by decide : (0 : Int) < 26)
    refine ⟨.inl (.inl ⟨by decide, by decide⟩), by decide, ?_⟩
    refine ⟨line_of (by decide +kernel), _, letter_at r0 r1, ?_⟩
    have hcm := letter_mem (i := ((sh + 7 * (0 + (i : Int))) % 26).toNat) (by omega)
    rw [Int.zero_add] at hcm r0 r1 ⊢
    generalize hcc : 97 + ((sh + 7 * (i : Int)) % 26).toNat = ch at hcm ⊢
    have hrv3 : (upd H6 L (.lst (zs.map V.str))) rv = some (.lst resv) := by rw [upd_ne Lrv]; exact hrv2
    refine ⟨fun σ' H' => ∃ w : Str, σ' = [some (.ref st), some (.int n), some (.str letters), some (.int sty), some (.int sh), some (.int code), some (.int spt), some (.str bs), some (.int i), some (.ref rv), some (.ref L), some (.str w)] ∧ H' = upd H6 L (.lst (zs.map V.str)) ∧ (sty = 1 → Lt w ps ch) ∧ (sty ≠ 1 → w = ⟨#[ch]⟩), ?_, ?_⟩
    · refine ite2 (fun e => ?_) (fun e => ?_)
      · have e : sty = 1 := of_decide_eq_true e
        have l1 := cutS_length bs none (some spt)
        have l2 := cutS_length bs (some spt) none
        have e1 := cutS_take bs (k := spt.toNat)
        have e2 := cutS_drop bs (k := spt.toNat)
        rw [show ((spt.toNat : Nat) : Int) = spt by omega] at e1 e2
        refine ⟨_, rfl, line_of (by omega), line_of (by rw [one_len]; omega), _, rfl, line_of (by omega), line_of (by rw [len_add, one_len]; omega), ?_⟩
        refine ⟨_, rfl, rfl, fun _ => ⟨fun d hd => ?_, ?_, ?_⟩, fun h => absurd e h⟩
        · rw [cps_add, cps_add, e1, e2, one_cps] at hd
          rcases List.mem_append.mp hd with h | h
          · rcases List.mem_append.mp h with h | h
            · exact ha d (List.mem_of_mem_take h)
            · rw [List.mem_singleton.mp h]; exact hcm
          · exact ha d (List.mem_of_mem_drop h)
        · have hps1 : ps = spt.toNat := by rw [hps, if_pos e]
          rw [cps_add, cps_add, e1, e2, one_cps, hps1, List.append_assoc, List.getElem?_append_right (by rw [List.length_take]; omega), List.length_take, hbl, Nat.min_eq_left (by omega), Nat.sub_self]
          rfl
        · rw [len_add, len_add, ← len_cps (cutS bs none (some spt)), ← len_cps (cutS bs (some spt) none), e1, e2, one_len, List.length_take, List.length_drop]
          omega
      · have e : ¬ sty = 1 := of_decide_eq_false (Bool.eq_false_iff.mpr e)
        exact ⟨_, rfl, rfl, fun h => absurd h e, fun _ => rfl⟩
    rintro σ' H' ⟨w, rfl, rfl, g1, g2⟩
    refine ⟨fun σ' H' => ∃ w : Str, σ' = [some (.ref st), some (.int n), some (.str letters), some (.int sty), some (.int sh), some (.int code), some (.int spt), some (.str bs), some (.int i), some (.ref rv), some (.ref L), some (.str w)] ∧ H' = upd H6 L (.lst (zs.map V.str)) ∧ (sty ≠ 3 → Lt w ps ch) ∧ (sty = 3 → w = ⟨#[ch]⟩), ?_, ?_⟩
    · refine ite2 (fun e => ?_) (fun e => ?_)
      · have e : sty = 2 := of_decide_eq_true e
        have hw := g2 (by omega)
        subst hw
        have r2 := Int.emod_nonneg (3 * (i : Int) + spt) (by decide : (7 : Int) ≠ 0)
        have e1 := cutS_take bs (k := ((3 * (i : Int) + spt) % 7).toNat)
        rw [show ((((3 * (i : Int) + spt) % 7).toNat : Nat) : Int) = (3 * (i : Int) + spt) % 7 by omega] at e1
        have l1 := cutS_length bs none (some ((3 * (i : Int) + spt) % 7))
        refine ⟨.inl (.inl ⟨by decide, by decide⟩), by decide, _, rfl, line_of (by omega), line_of (by rw [one_len]; omega), ?_⟩
        refine ⟨_, rfl, rfl, fun _ => ⟨fun d hd => ?_, ?_, ?_⟩, fun h => absurd h (by omega)⟩
        · rw [cps_add, e1, one_cps] at hd
          rcases List.mem_append.mp hd with h | h
          · rw [List.mem_singleton.mp h]; exact hcm
          · exact ha d (List.mem_of_mem_take h)
        · have hps1 : ps = 0 := by rw [hps, if_neg (by omega), if_neg (by omega)]
          rw [cps_add, one_cps, hps1]
          rfl
        · rw [len_add, one_len]
          omega
      · have e : ¬ sty = 2 := of_decide_eq_false (Bool.eq_false_iff.mpr e)
        refine ⟨w, rfl, rfl, fun h3 => ?_, fun h3 => g2 (by omega)⟩
        by_cases h1 : sty = 1
        · exact g1 h1
        · have hw := g2 h1
          subst hw
          refine ⟨fun d hd => ?_, ?_, by rw [one_len]; decide⟩
          · rw [List.mem_singleton.mp hd]; exact hcm
          · have hps1 : ps = 0 := by rw [hps, if_neg h1, if_neg h3]
            rw [hps1]
            rfl
    rintro σ' H' ⟨w, rfl, rfl, g1, g2⟩
    refine ⟨fun σ' H' => ∃ w : Str, σ' = [some (.ref st), some (.int n), some (.str letters), some (.int sty), some (.int sh), some (.int code), some (.int spt), some (.str bs), some (.int i), some (.ref rv), some (.ref L), some (.str w)] ∧ H' = upd H6 L (.lst (zs.map V.str)) ∧ Lt w ps ch, ?_, ?_⟩
    · refine ite2 (fun e => ?_) (fun e => ?_)
      · have e : sty = 3 := of_decide_eq_true e
        have hw := g2 e
        subst hw
        have e1 := cutS_take bs (k := 5)
        have l1 := cutS_length bs none (some 5)
        refine ⟨_, rfl, line_of (by omega), line_of (by rw [one_len]; omega), line_of (by rw [len_add, one_len]; omega), ?_⟩
        refine ⟨_, rfl, rfl, fun d hd => ?_, ?_, ?_⟩
        · rw [cps_add, cps_add, show (cutS bs none (some (5 : Int))).cps.toList = bs.cps.toList.take 5 from e1, one_cps] at hd
          rcases List.mem_append.mp hd with h | h
          · rcases List.mem_append.mp h with h | h
            · exact ha d (List.mem_of_mem_take h)
            · rw [List.mem_singleton.mp h]; exact hcm
          · exact ha d h
        · have hps1 : ps = 5 := by rw [hps, if_neg (by omega), if_pos e]
          rw [cps_add, cps_add, show (cutS bs none (some (5 : Int))).cps.toList = bs.cps.toList.take 5 from e1, one_cps, hps1, List.append_assoc, List.getElem?_append_right (by rw [List.length_take]; omega), List.length_take, hbl]
          rfl
        · rw [len_add, len_add, ← len_cps (cutS bs none (some (5 : Int))), show (cutS bs none (some (5 : Int))).cps.toList = bs.cps.toList.take 5 from e1, one_len, List.length_take]
          omega
      · have e : ¬ sty = 3 := of_decide_eq_false (Bool.eq_false_iff.mpr e)
        exact ⟨w, rfl, rfl, g1 e⟩
    rintro σ' H' ⟨w, rfl, rfl, g1⟩
    refine ⟨fun σ' H' => ∃ w : Str, σ' = [some (.ref st), some (.int n), some (.str letters), some (.int sty), some (.int sh), some (.int code), some (.int spt), some (.str bs), some (.int i), some (.ref rv), some (.ref L), some (.str w)] ∧ H' = upd H6 L (.lst (zs.map V.str)) ∧ Lt w ps ch ∧ inV (.str w) resv = false, ?_, ?_⟩
    · refine ⟨_, .inl (SqL.of hrv3), rfl, rfl, ?_⟩
      refine ite2 (fun e => ?_) (fun e => ?_)
      · have e : inV (.str w) resv = true := e
        obtain ⟨z1, z2⟩ := resv_z e
        exact ⟨line_of (by show w.length + 1 ≤ _; omega), _, rfl, rfl, g1.z z2, z1⟩
      · exact ⟨w, rfl, rfl, g1, Bool.eq_false_iff.mpr e⟩
    rintro σ' H' ⟨w, rfl, rfl, g1, gr⟩
    refine ⟨.inl ⟨rfl, _, SqL.of upd_same⟩, L, _, _, rfl, rfl, upd_same, line_lt (by rw [List.length_map]; omega), ?_⟩
    refine ⟨_, _, zs ++ [w], rfl, ?_, by rw [List.length_append, hzl]; rfl, fun j z hj => ?_⟩
    · rw [upd_upd, List.map_append]
      rfl
    · by_cases h : j < zs.length
      · rw [List.getElem?_append_left h] at hj
        exact hzs j z hj
      · rw [List.getElem?_append_right (by omega)] at hj
        have hj0 : j - zs.length = 0 := by
          have := (List.getElem?_eq_some_iff.mp hj).1
          rw [List.length_singleton] at this
          omega
        rw [hj0] at hj
        cases hj
        rw [show j = i by omega, hcc]
        exact ⟨g1, gr⟩
  · rintro σ' H' ⟨y, z, zs, rfl, rfl, hzl, hzs⟩
    refine q _ L zs ?_ (hd6.at Ls Lc) L0 upd_same (by omega) (fun z hz => ?_) ?_
    · intro b o nb hb
      rw [upd_ne (ne_of_none hb L0)]
      exact b6 b o nb hb
    · obtain ⟨j, hj, e⟩ := List.getElem_of_mem hz
      obtain ⟨h1, h2⟩ := hzs j z (by rw [List.getElem?_eq_getElem hj, e])
      exact ⟨h1.name h2, h1.2.2⟩
    · show List.Pairwise (· ≠ ·) zs
      rw [List.pairwise_iff_getElem]
      intro i j hi hj hij e
      have ej : zs[j]? = some zs[j] := List.getElem?_eq_getElem hj
      have ei : zs[i]? = some zs[j] := by rw [← e]; exact List.getElem?_eq_getElem hi
      obtain ⟨h1, _⟩ := hzs i _ ei
      obtain ⟨h2, _⟩ := hzs j _ ej
      have := h1.2.1.symm.trans h2.2.1
      have := Option.some.inj this
      omega
end
section
variable {P : Program} {w : World} {K : PySem.W.Frag} {mg : Str → Option Value} {base : Heap}
variable {t_BOUND t_LETTERS t_LONGEST_NAME : Tok} {a_ALWAYS a_NEVER a_OPPOSITES a_RESERVED a_SIGNS a_BadName a_BadNumber a_BadSign a_Condition a_ElseputError a_TooLarge : Addr}
/-! ### trees -/
theorem take_snoc {α : Type} {xs : List α} {i : Nat} {x : α} (h : xs[i]? = some x) : xs.take (i + 1) = xs.take i ++ [x] := by
  rw [List.take_add_one, h]
  rfl
inductive Tr where
  | tt | ff
  | cmp (f s : Str) (n : Int)
  | con (w : Bool) (l r : Tr)
def wd (w : Bool) : Str := if w then "and" else "or"
def TAt (K : PySem.W.Frag) (H : Hp) : Tr → V → Prop
  | .tt, v => ∃ a, v = .ref a ∧ SqT K H a [.str "always"]
  | .ff, v => ∃ a, v = .ref a ∧ SqT K H a [.str "never"]
  | .cmp f s n, v => ∃ a, v = .ref a ∧ SqT K H a [.str "compare", .str f, .str s, .int n]
  | .con w l r, v => ∃ a x y, v = .ref a ∧ SqT K H a [.str (wd w), x, y] ∧ TAt K H l x ∧ TAt K H r y
theorem SqT.same {K : PySem.W.Frag} {H H' : Hp} {a : Addr} {xs : List V} (h : SqT K H a xs) (s : Same H H') : SqT K H' a xs := by
  rcases h with (h | ⟨o, h⟩) | h
  · exact .inl (.inl (s _ _ h))
  · exact .inl (.inr ⟨o, s _ _ h⟩)
  · exact .inr h
/-- no tuple stands at st -/
def NT (H : Hp) (st : Addr) : Prop := ∀ xs : List V, H st ≠ some (.tup xs) ∧ ∀ o, H st ≠ some (.frz o (.tup xs))
theorem NT.lst {H : Hp} {st : Addr} (h : ∃ l, H st = some (.lst l)) : NT H st := fun xs => by
  obtain ⟨l, h⟩ := h
  rw [h]
  exact ⟨(fun e => by cases e), (fun o e => by cases e)⟩
theorem NT.ins {H : Hp} {st C dx : Addr} {fs : List (Str × V)} (h : H st = some (.ins C dx fs)) : NT H st := fun xs => by
  rw [h]
  exact ⟨(fun e => by cases e), (fun o e => by cases e)⟩
theorem SqT.bt {K : PySem.W.Frag} {H H' : Hp} {a st : Addr} {xs : List V} (h : SqT K H a xs) (hs : NT H st) (s : Bt st H H') : SqT K H' a xs := by
  rcases h with (h | ⟨o, h⟩) | h
  · exact .inl (.inl (s _ _ (fun e => (hs xs).1 (e ▸ h)) h))
  · exact .inl (.inr ⟨o, s _ _ (fun e => (hs xs).2 o (e ▸ h)) h⟩)
  · exact .inr h
theorem ty_tup {K : PySem.W.Frag} {H : Hp} {a : Addr} {xs : List V} (h : SqT K H a xs) : TyX K H (.ref a) (.type "tuple") := by
  rcases h with (h | ⟨o, h⟩) | ⟨o, its, n, e, c, _⟩
  · exact .base (.tup h)
  · exact .fTuple h
  · exact .kTuple e c
theorem TAt.same {K : PySem.W.Frag} {H H' : Hp} (s : Same H H') : ∀ {t : Tr} {v : V}, TAt K H t v → TAt K H' t v
  | .tt, _, ⟨a, e, h⟩ => ⟨a, e, SqT.same h s⟩
  | .ff, _, ⟨a, e, h⟩ => ⟨a, e, SqT.same h s⟩
  | .cmp _ _ _, _, ⟨a, e, h⟩ => ⟨a, e, SqT.same h s⟩
  | .con _ _ _, _, ⟨a, x, y, e, h, h1, h2⟩ => ⟨a, x, y, e, SqT.same h s, TAt.same s h1, TAt.same s h2⟩
theorem TAt.bt {K : PySem.W.Frag} {H H' : Hp} {st : Addr} (hs : NT H st) (s : Bt st H H') : ∀ {t : Tr} {v : V}, TAt K H t v → TAt K H' t v
  | .tt, _, ⟨a, e, h⟩ => ⟨a, e, SqT.bt h hs s⟩
  | .ff, _, ⟨a, e, h⟩ => ⟨a, e, SqT.bt h hs s⟩
  | .cmp _ _ _, _, ⟨a, e, h⟩ => ⟨a, e, SqT.bt h hs s⟩
  | .con _ _ _, _, ⟨a, x, y, e, h, h1, h2⟩ => ⟨a, x, y, e, SqT.bt h hs s, TAt.bt hs s h1, TAt.bt hs s h2⟩
def Tr.depth : Tr → Nat
  | .con _ l r => max l.depth r.depth + 1
  | _ => 0
/-- the comparisons, from left to right -/
def Tr.cs : Tr → List (Str × Str × Int)
  | .cmp f s n => [(f, s, n)]
  | .con _ l r => l.cs ++ r.cs
  | _ => []
theorem Tr.cs_depth : ∀ t : Tr, t.cs.length ≤ 2 ^ t.depth
  | .tt => Nat.zero_le _
  | .ff => Nat.zero_le _
  | .cmp _ _ _ => Nat.le_refl _
  | .con _ l r => by
    have h1 := Tr.cs_depth l
    have h2 := Tr.cs_depth r
    show (l.cs ++ r.cs).length ≤ 2 ^ (max l.depth r.depth + 1)
    have p1 : 2 ^ l.depth ≤ 2 ^ (max l.depth r.depth) := Nat.pow_le_pow_right (by decide) (Nat.le_max_left _ _)
    have p2 : 2 ^ r.depth ≤ 2 ^ (max l.depth r.depth) := Nat.pow_le_pow_right (by decide) (Nat.le_max_right _ _)
    rw [List.length_append, Nat.pow_succ]
    omega
/-- the objects of comparisons -/
def CsAt (K : PySem.W.Frag) (H : Hp) (xs : List V) (cs : List (Str × Str × Int)) : Prop := xs.length = cs.length ∧ ∀ (i : Nat) (c : Str × Str × Int), cs[i]? = some c → ∃ a : Addr, xs[i]? = some (V.ref a) ∧ SqT K H a [.str "compare", .str c.1, .str c.2.1, .int c.2.2]
theorem CsAt.same {K : PySem.W.Frag} {H H' : Hp} {xs : List V} {cs : List (Str × Str × Int)} (h : CsAt K H xs cs) (s : Same H H') : CsAt K H' xs cs := ⟨h.1, fun i c hc => by
  obtain ⟨a, e, q⟩ := h.2 i c hc
  exact ⟨a, e, SqT.same q s⟩⟩
theorem CsAt.bt {K : PySem.W.Frag} {H H' : Hp} {st : Addr} {xs : List V} {cs : List (Str × Str × Int)} (h : CsAt K H xs cs) (hs : NT H st) (s : Bt st H H') : CsAt K H' xs cs := ⟨h.1, fun i c hc => by
  obtain ⟨a, e, q⟩ := h.2 i c hc
  exact ⟨a, e, SqT.bt q hs s⟩⟩
theorem CsAt.app {K : PySem.W.Frag} {H : Hp} {xs ys : List V} {cs ds : List (Str × Str × Int)} (h : CsAt K H xs cs) (k : CsAt K H ys ds) : CsAt K H (xs ++ ys) (cs ++ ds) := ⟨by rw [List.length_append, List.length_append, h.1, k.1], fun i c hc => by
  by_cases e : i < cs.length
  · rw [List.getElem?_append_left e] at hc
    rw [List.getElem?_append_left (by rw [h.1]; exact e)]
    exact h.2 i c hc
  · rw [List.getElem?_append_right (by omega)] at hc
    rw [List.getElem?_append_right (by rw [h.1]; omega), h.1]
    exact k.2 _ c hc⟩
def spCmps (n : Nat) : PySem.W.Frag → Sp := fun K vs H Q _ => ∃ (v : V) (t : Tr), vs = [v] ∧ TAt K H t v ∧ t.depth < n ∧ t.cs.length ≤ 1000 ∧
  ∀ (H' : Hp) (D : Addr) (xs : List V), Same H H' → H D = none → H' D = some (.lst xs) → CsAt K H' xs t.cs → Q (.ref D) H'
theorem len_cmps {n : Nat} {vs : List V} {H : Hp} {Q : VK} {E : XK} (h : spCmps n K vs H Q E) : vs.length = 1 := by
  obtain ⟨_, _, rfl, _⟩ := h
  rfl
theorem cmps_step {n k : Nat} {f : Addr} {fd : FuncData} (F : Fun K "comparisons" "comparisons" s_comparisons f fd) (T : Gs K mg t_BOUND t_LETTERS t_LONGEST_NAME a_ALWAYS a_NEVER a_OPPOSITES a_RESERVED a_SIGNS a_BadName a_BadNumber a_BadSign a_Condition a_ElseputError a_TooLarge)
    (c_comparisons : Cal P w K mg base CX0 k "comparisons" f fd ["tree"] (spCmps n K)) (hk : 1 ≤ k) : FnOk P w K mg base CX0 (k + 1) f fd ["tree"] (spCmps (n + 1) K) := by
  refine F.ok sc_comparisons (fun vs H Q E h => len_cmps h) (fun cdv A outer s H vs Q E hr h => ?_)
  obtain ⟨v, t, rfl, ht, hd, hl, q⟩ := h
  refine ⟨_, (pss_cons (ps_if (pt_c (eqK K hr.units) (e_x K (v_ 0) pe_int) pe_str) (pss_one (ps_ret (pe_lst (pa_cons (v_ 0) pa_nil)))) pss_nil) (pss_one (ps_ret (pe_lc2 (own := [("branch", 1), ("part", 2)]) (vs1 := [2]) (g := gName 1) (g1 := gName 2) (by rfl) sc_comparisons.nd (pi_tup (pe_slice (slK K) (v_ 0) (po_some pe_int) po_none)) (blkOk_by (N := ["tree", "branch", "part"]) (sc := defScope s_comparisons) (by decide +kernel)) (by decide) (fun _ _ _ _ _ => pg_name (i := 1) sc_comparisons.nd rfl (Or.inl rfl)) (fun _ _ _ _ _ => pts_nil) (fun _ _ _ _ _ => (pi_seqK K (pe_call c_comparisons.G (hr.mono (by first | decide | omega)) rfl c_comparisons.m c_comparisons.kp c_comparisons.b .nil pass0 (pa_cons (v_ 1) pa_nil)))) (fun _ _ _ _ _ => pg_name (i := 2) sc_comparisons.nd rfl (Or.inl rfl)) (fun _ _ _ _ _ => pts_nil) (fun _ _ _ _ _ => (v_ 2)))))), ?_⟩
  cases t with
  | cmp f s m =>
    obtain ⟨a, rfl, ha⟩ := ht
    refine ⟨_, .inr ha, .str "compare", rfl, ?_⟩
    refine ⟨(by show 1 ≤ sizeLine; decide), fun D nD => ?_⟩
    refine q _ D [.ref a] (same_new nD) nD upd_same ⟨rfl, fun i c hc => ?_⟩
    match i, hc with
    | 0, hc => cases hc; exact ⟨a, rfl, SqT.same ha (same_new nD)⟩
  | tt =>
    obtain ⟨a, rfl, ha⟩ := ht
    refine ⟨_, .inr ha, .str "always", rfl, ?_⟩
    refine ⟨1, rfl, .inr ⟨a, _, rfl, ha, by decide +kernel, fun p np => ?_⟩⟩
    refine ⟨p, rfl, ⟨_, SqT.of upd_same⟩, fun D nD => ?_⟩
    have sD := (same_new (o := .tup (cutV [.str "always"] (some 1) none)) np).trans (same_new (o := .lst []) nD)
    refine lc2_it (walk_tup (xs := [])) (fun i H1 => H1 = upd (upd H p (.tup (cutV [.str "always"] (some 1) none))) D (.lst [])) rfl (fun _ _ _ h => by rw [h]; exact SqT.of (same_new nD _ _ upd_same)) ?_ ?_
    · rintro i v H1 H2 hi
      cases hi
    · rintro H1 rfl
      exact q _ D [] sD (free_new nD) upd_same ⟨rfl, fun i c hc => nomatch hc⟩
  | ff =>
    obtain ⟨a, rfl, ha⟩ := ht
    refine ⟨_, .inr ha, .str "never", rfl, ?_⟩
    refine ⟨1, rfl, .inr ⟨a, _, rfl, ha, by decide +kernel, fun p np => ?_⟩⟩
    refine ⟨p, rfl, ⟨_, SqT.of upd_same⟩, fun D nD => ?_⟩
    have sD := (same_new (o := .tup (cutV [.str "never"] (some 1) none)) np).trans (same_new (o := .lst []) nD)
    refine lc2_it (walk_tup (xs := [])) (fun i H1 => H1 = upd (upd H p (.tup (cutV [.str "never"] (some 1) none))) D (.lst [])) rfl (fun _ _ _ h => by rw [h]; exact SqT.of (same_new nD _ _ upd_same)) ?_ ?_
    · rintro i v H1 H2 hi
      cases hi
    · rintro H1 rfl
      exact q _ D [] sD (free_new nD) upd_same ⟨rfl, fun i c hc => nomatch hc⟩
  | con w l r =>
    obtain ⟨a, x, y, rfl, ha, hx, hy⟩ := ht
    have hw : ∀ (P : Prop), (w = true → P) → (w = false → P) → P := fun P h1 h2 => by cases w; exact h2 rfl; exact h1 rfl
    have dl : l.depth < n := by have : max l.depth r.depth + 1 < n + 1 := hd; omega
    have dr : r.depth < n := by have : max l.depth r.depth + 1 < n + 1 := hd; omega
    have ll : (l.cs ++ r.cs).length ≤ 1000 := hl
    rw [List.length_append] at ll
    have ec : cutV [V.str (wd w), x, y] (some 1) none = [x, y] := rfl
    refine ⟨_, .inr ha, .str (wd w), rfl, ?_⟩
    refine ite2 (fun e => ?_) (fun _ => ?_)
    · cases w <;> exact absurd e (by decide +kernel)
    refine ⟨1, rfl, .inr ⟨a, _, rfl, ha, (by show ¬ (1 = 0 ∧ 3 = 3); decide), fun p np => ?_⟩⟩
    rw [ec]
    have sp := same_new (o := .tup [x, y]) np
    have hp := upd_same (H := H) (a := p) (o := .tup [x, y])
    generalize upd H p (.tup [x, y]) = H1 at sp hp ⊢
    refine ⟨p, rfl, ⟨_, SqT.of hp⟩, fun D nD => ?_⟩
    refine lc2_it (walk_tup (xs := [x, y])) (fun i H' => Same H1 H' ∧ ∃ pre : List V, H' D = some (.lst pre) ∧ CsAt K H' pre (if i = 0 then [] else if i = 1 then l.cs else l.cs ++ r.cs)) ⟨same_new nD, [], upd_same, rfl, fun i c hc => nomatch hc⟩ (fun _ _ _ h => SqT.of (h.1 _ _ hp)) ?_ ?_
    · rintro i v H2 H3 hi ⟨s2, pre, hD, hpre⟩ ⟨rfl, hv⟩
      have hv : ([x, y] : List V)[i]? = some v := hv
      obtain ⟨t, ht, dt, lt, ec, lp⟩ : ∃ t : Tr, TAt K H t v ∧ t.depth < n ∧ t.cs.length ≤ 1000 ∧ (if i + 1 = 0 then [] else if i + 1 = 1 then l.cs else l.cs ++ r.cs) = (if i = 0 then [] else if i = 1 then l.cs else l.cs ++ r.cs) ++ t.cs ∧ (if i = 0 then [] else if i = 1 then l.cs else l.cs ++ r.cs : List (Str × Str × Int)).length ≤ 1000 := by
        match i, hv with
        | 0, hv => cases hv; exact ⟨l, hx, dl, by omega, rfl, Nat.zero_le _⟩
        | 1, hv => cases hv; exact ⟨r, hy, dr, by omega, rfl, (by show l.cs.length ≤ 1000; omega)⟩
      rw [ec]
      generalize (if i = 0 then [] else if i = 1 then l.cs else l.cs ++ r.cs : List (Str × Str × Int)) = pc at hpre lp
      refine ⟨rfl, ?_⟩
      refine ⟨v, t, rfl, TAt.same (sp.trans s2) ht, dt, lt, fun H4 B xs s4 nB hB hcs => ?_⟩
      have hD4 := s4 _ _ hD
      have BD : B ≠ D := ne_of_none hD nB |>.symm
      refine ⟨B, xs, rfl, .inl ⟨SqL.of hB, ?_⟩⟩
      refine inner2_it (walk_list (xs := xs)) (fun j H' => Same H1 H' ∧ H' B = some (.lst xs) ∧ CsAt K H' xs t.cs ∧ CsAt K H' pre pc ∧ H' D = some (.lst (pre ++ xs.take j))) ⟨s2.trans s4, hB, hcs, hpre.same s4, by rw [hD4, List.take_zero, List.append_nil]⟩ (fun _ _ _ h => SqL.of h.2.1) ?_ ?_
      · rintro j v2 H5 H6 hj ⟨s5, hB5, hc5, hp5, hD5⟩ ⟨rfl, hv2⟩
        refine ⟨rfl, ?_⟩
        have l1 := hp5.1
        have l2 := hc5.1
        have hDl : NT H6 D := NT.lst ⟨_, hD5⟩
        refine ⟨_, hD5, line_lt (by rw [List.length_append, List.length_take]; omega), fun b o hb => ?_, ?_, hc5.bt hDl Bt.st, hp5.bt hDl Bt.st, ?_⟩
        · rw [upd_ne (ne_of_none hb nD)]
          exact s5 _ _ hb
        · rw [upd_ne BD]
          exact hB5
        · rw [upd_same, List.append_assoc, ← take_snoc hv2]
      · rintro H5 ⟨s5, hB5, hc5, hp5, hD5⟩
        rw [List.take_length] at hD5
        exact ⟨s5, _, hD5, hp5.app hc5⟩
    · rintro H2 ⟨s2, pre, hD, hpre⟩
      exact q _ D pre (sp.trans s2) (Same.free sp nD) hD hpre
theorem cmps_all {f : Addr} {fd : FuncData} (F : Fun K "comparisons" "comparisons" s_comparisons f fd) (T : Gs K mg t_BOUND t_LETTERS t_LONGEST_NAME a_ALWAYS a_NEVER a_OPPOSITES a_RESERVED a_SIGNS a_BadName a_BadNumber a_BadSign a_Condition a_ElseputError a_TooLarge)
    (b : Binds K fd ["tree"] []) (kp : PySem.W.keepIn K (.ref f) = true) (m : mg "comparisons" = some (.ref f)) : ∀ n : Nat, FnOk P w K mg base CX0 (n + 2) f fd ["tree"] (spCmps n K)
  | 0 => ⟨fun _ _ _ _ h => len_cmps h, by
    intro A outer s H args us vs Q E _ _ _ _ h
    obtain ⟨_, _, _, _, h, _⟩ := h
    exact absurd h (Nat.not_lt_zero _)⟩
  | n + 1 => cmps_step F T ⟨cmps_all F T b kp m n, b, kp, m⟩ (by omega)
def sp_comparisons : PySem.W.Frag → Sp := spCmps 20
theorem ok_comparisons {f : Addr} {fd : FuncData} (F : Fun K "comparisons" "comparisons" s_comparisons f fd) (T : Gs K mg t_BOUND t_LETTERS t_LONGEST_NAME a_ALWAYS a_NEVER a_OPPOSITES a_RESERVED a_SIGNS a_BadName a_BadNumber a_BadSign a_Condition a_ElseputError a_TooLarge) (b : Binds K fd ["tree"] []) (kp : PySem.W.keepIn K (.ref f) = true) (m : mg "comparisons" = some (.ref f)) :
    FnOk P w K mg base CX0 22 f fd ["tree"] (sp_comparisons K) := cmps_all F T b kp m 20
end
section
variable {P : Program} {w : World} {K : PySem.W.Frag} {mg : Str → Option Value} {base : Heap}
variable {t_BOUND t_LETTERS t_LONGEST_NAME : Tok} {a_ALWAYS a_NEVER a_OPPOSITES a_RESERVED a_SIGNS a_BadName a_BadNumber a_BadSign a_Condition a_ElseputError a_TooLarge : Addr}
/-! ### conditions -/
theorem same_mk {H : Hp} {x dx C : Addr} (nx : H x = none) (nd : H dx = none) : Same H (upd (upd H dx (.own x)) x (.ins C dx [])) := fun b o hb => by
  rw [upd_ne (ne_of_none hb nx), upd_ne (ne_of_none hb nd)]
  exact hb
def Tr.flds (t : Tr) : List Str := t.cs.map (·.1)
/-- the compared fields, in alphabetical order -/
def FOf (ss : List Str) (fs : List Str) : Prop := sortedS ss = true ∧ ss.Nodup ∧ ∀ k, k ∈ ss ↔ k ∈ fs
def CnAt (K : PySem.W.Frag) (H : Hp) (a : Addr) (t : Tr) : Prop := ∃ (C dx u : Addr) (v : V) (ss : List Str), PySem.W.nsIn K mainGlobals "Condition" = some (some (.ref C)) ∧ H a = some (.ins C dx [("tree", v), ("_fields", .ref u)]) ∧ TAt K H t v ∧ H u = some (.tup (ss.map V.str)) ∧ FOf ss t.flds ∧ ss.length ≤ 60
theorem CnAt.same {K : PySem.W.Frag} {H H' : Hp} {a : Addr} {t : Tr} (h : CnAt K H a t) (s : Same H H') : CnAt K H' a t := by
  obtain ⟨C, dx, u, v, ss, h1, h2, h3, h4, h5⟩ := h
  exact ⟨C, dx, u, v, ss, h1, s _ _ h2, h3.same s, s _ _ h4, h5⟩
theorem CnAt.bt {K : PySem.W.Frag} {H H' : Hp} {a st : Addr} {t : Tr} (h : CnAt K H a t) (hs : ∃ l, H st = some (.lst l)) (s : Bt st H H') : CnAt K H' a t := by
  obtain ⟨C, dx, u, v, ss, h1, h2, h3, h4, h5⟩ := h
  obtain ⟨l, hl⟩ := hs
  exact ⟨C, dx, u, v, ss, h1, s _ _ (ne_of h2 hl (by intro e; cases e)) h2, h3.bt (NT.lst ⟨l, hl⟩) s, s _ _ (ne_of h4 hl (by intro e; cases e)) h4, h5⟩
def sp_Condition___init__ (K : PySem.W.Frag) : Sp := fun vs H Q _ => ∃ (a C dx : Addr) (v : V) (t : Tr), vs = [.ref a, v] ∧ PySem.W.nsIn K mainGlobals "Condition" = some (some (.ref C)) ∧ H a = some (.ins C dx []) ∧ TAt K H t v ∧ t.depth < 20 ∧ t.cs.length ≤ 50 ∧
  ∀ H' : Hp, Bt a H H' → CnAt K H' a t → Q .non H'
theorem len_Condition___init__ {vs : List V} {H : Hp} {Q : VK} {E : XK} (h : sp_Condition___init__ K vs H Q E) : vs.length = 2 := by
  obtain ⟨_, _, _, _, _, rfl, _⟩ := h
  rfl
theorem ok_Condition___init__ {f : Addr} {fd : FuncData} {f_comparisons : Addr} {fd_comparisons : FuncData} (F : Fun K "__init__" "Condition.__init__" s_Condition___init__ f fd) (T : Gs K mg t_BOUND t_LETTERS t_LONGEST_NAME a_ALWAYS a_NEVER a_OPPOSITES a_RESERVED a_SIGNS a_BadName a_BadNumber a_BadSign a_Condition a_ElseputError a_TooLarge) (c_comparisons : Cal P w K mg base CX0 22 "comparisons" f_comparisons fd_comparisons ["tree"] (sp_comparisons K)) : FnOk P w K mg base CX0 23 f fd ["self", "tree"] (sp_Condition___init__ K) := by
  refine F.ok sc_Condition___init__ (fun vs H Q E h => len_Condition___init__ h) (fun cdv A outer s H vs Q E hr h => ?_)
  obtain ⟨a, C, dx, v, t, rfl, hC, ha, ht, td, tl, q⟩ := h
  cases hC.symm.trans T.n_Condition
  refine ⟨_, (pss_cons (ps_fld (v_ 0) (v_ 1) (by rfl)) (pss_one (ps_fld (v_ 0) (pe_callTy (tupleK K) (by rfl) T.z_tuple (by decide +kernel) (pa_cons (pe_callB (cr_sortTx rfl) (by rfl) T.z_sorted (by decide +kernel) (pa_cons (pe_scT (own := [("part", 2)]) (g := gName 2) (by rfl) sc_Condition___init__.nd (pi_list (pe_call c_comparisons.G (hr.mono (by first | decide | omega)) rfl c_comparisons.m c_comparisons.kp c_comparisons.b .nil pass0 (pa_cons (v_ 1) pa_nil))) (blkOk_by (N := ["self", "tree", "part"]) (sc := defScope s_Condition___init__) (by decide +kernel)) (fun _ _ _ _ _ => pg_name (i := 2) sc_Condition___init__.nd rfl (Or.inl rfl)) (fun _ _ _ _ _ => pts_nil) (fun _ _ _ _ _ => (e_x K (v_ 2) pe_int))) pa_nil)) pa_nil)) (by rfl)))), ?_⟩
  refine ⟨a, a_Condition, dx, [], rfl, ha, T.cl_Condition, T.na_Condition_tree, by decide, ?_⟩
  generalize hH2 : upd H a _ = H2
  have b1 : Bt a H H2 := fun b o nb hb => by rw [← hH2, upd_ne nb]; exact hb
  have ha2 : H2 a = some (.ins a_Condition dx [("tree", v)]) := by rw [← hH2, upd_same]; rfl
  have ht2 : TAt K H2 t v := ht.bt (NT.ins ha) b1
  clear hH2
  refine ⟨v, t, rfl, ht2, td, Nat.le_trans tl (by decide), fun H3 D xs s3 nD hD hxs => ?_⟩
  refine ⟨D, rfl, ⟨_, SqL.of hD⟩, fun S nS => ?_⟩
  refine sct_it (walk_list (xs := xs)) (fun i H' => Same H3 H' ∧ ∃ (f : Str → Bool) (n : Nat), H' S = some (TxO P w S f n) ∧ n ≤ i ∧ ∀ k, f k = true ↔ k ∈ (t.cs.take i).map (·.1)) ⟨same_new nS, _, _, upd_same, Nat.le_refl _, fun k => ⟨(fun h => nomatch h), (fun h => nomatch h)⟩⟩ (fun _ _ _ h => SqL.of (h.1 _ _ hD)) ?_ ?_
  · rintro i v2 H4 H5 hi ⟨s4, f, n, hS, hn, hf⟩ ⟨rfl, hv⟩
    have hil : i < t.cs.length := by rw [← hxs.1]; exact hi
    obtain ⟨c, ec⟩ : ∃ c, t.cs[i]? = some c := ⟨_, List.getElem?_eq_getElem hil⟩
    obtain ⟨b, eb, hb⟩ := hxs.2 i c ec
    have hv : xs[i]? = some v2 := hv
    rw [eb] at hv
    cases hv
    have i1 : atI [V.str "compare", .str c.1, .str c.2.1, .int c.2.2] (1 : Int) = some (.str c.1) := rfl
    refine ⟨rfl, ?_⟩
    refine ⟨_, .inr (SqT.same hb s4), .str c.1, i1, c.1, _, _, rfl, hS, (by have h1 : scanBound > 1000 := (by decide); omega), fun b2 o hb2 => ?_, _, _, upd_same, ?_, fun k => ?_⟩
    · rw [upd_ne (ne_of_none hb2 nS)]
      exact s4 _ _ hb2
    · split <;> omega
    · rw [Bool.or_eq_true, hf k, take_snoc ec, List.map_append, List.mem_append, decide_eq_true_iff]
      simp
  · rintro H4 ⟨s4, f, n, hS, hn, hf⟩
    rw [hxs.1, List.take_length] at hf
    refine ⟨S, _, n, rfl, hS, by have := hxs.1; omega, fun ss p h1 h2 hm hl nP => ?_⟩
    have sp := s4.trans (same_new (o := .lst (ss.map V.str)) nP)
    refine ⟨p, ss.map V.str, rfl, .inl ⟨SqL.of upd_same, fun u nu => ?_⟩⟩
    have su := sp.trans (same_new (o := .tup (ss.map V.str)) nu)
    have hu := upd_same (H := upd H4 p (.lst (ss.map V.str))) (a := u) (o := .tup (ss.map V.str))
    generalize upd (upd H4 p (.lst (ss.map V.str))) u (.tup (ss.map V.str)) = H6 at su hu ⊢
    have s6 := s3.trans su
    have ha6 := s6 _ _ ha2
    have ua : u ≠ a := ne_of hu ha6 (by intro e; cases e)
    refine ⟨a, a_Condition, dx, _, rfl, ha6, T.cl_Condition, T.na_Condition__fields, (by show 1 < 1000; decide), ?_⟩
    have ht6 := ht2.same s6
    refine q _ (fun b o nb hb => ?_) ⟨a_Condition, dx, u, v, ss, T.n_Condition, by rw [upd_same]; rfl, ht6.bt (NT.ins ha6) Bt.st, by rw [upd_ne ua]; exact hu, ⟨h1, h2, fun k => (hm k).trans (hf k)⟩, by have := hxs.1; omega⟩
    rw [upd_ne nb]
    exact s6 _ _ (b1 _ _ nb hb)
def sp_Condition_fields (K : PySem.W.Frag) : Sp := fun vs H Q _ => ∃ (a : Addr) (t : Tr), vs = [.ref a] ∧ CnAt K H a t ∧ ∀ (u : Addr) (ss : List Str), H u = some (.tup (ss.map V.str)) → FOf ss t.flds → ss.length ≤ 60 → Q (.ref u) H
theorem len_Condition_fields {vs : List V} {H : Hp} {Q : VK} {E : XK} (h : sp_Condition_fields K vs H Q E) : vs.length = 1 := by
  obtain ⟨_, _, rfl, _⟩ := h
  rfl
theorem ok_Condition_fields {f : Addr} {fd : FuncData} (F : Fun K "fields" "Condition.fields" s_Condition_fields f fd) (T : Gs K mg t_BOUND t_LETTERS t_LONGEST_NAME a_ALWAYS a_NEVER a_OPPOSITES a_RESERVED a_SIGNS a_BadName a_BadNumber a_BadSign a_Condition a_ElseputError a_TooLarge) : FnOk P w K mg base CX0 1 f fd ["self"] (sp_Condition_fields K) := by
  refine F.ok sc_Condition_fields (fun vs H Q E h => len_Condition_fields h) (fun cdv A outer s H vs Q E hr h => ?_)
  obtain ⟨a, t, rfl, ⟨C, dx, u, v, ss, hC, ha, ht, hu, hf, hl⟩, q⟩ := h
  cases hC.symm.trans T.n_Condition
  refine ⟨_, (pss_one (ps_ret (e_f K (v_ 0)))), ?_⟩
  exact ⟨a, a_Condition, dx, _, _, rfl, ha, T.cl_Condition, T.na_Condition__fields, rfl, q u ss hu hf hl⟩
def sp_Condition_size (K : PySem.W.Frag) : Sp := fun vs H Q _ => ∃ (a : Addr) (t : Tr), vs = [.ref a] ∧ CnAt K H a t ∧ t.depth < 20 ∧ t.cs.length ≤ 1000 ∧ ∀ H' : Hp, Same H H' → Q (.int (t.cs.length : Nat)) H'
theorem len_Condition_size {vs : List V} {H : Hp} {Q : VK} {E : XK} (h : sp_Condition_size K vs H Q E) : vs.length = 1 := by
  obtain ⟨_, _, rfl, _⟩ := h
  rfl
theorem ok_Condition_size {f : Addr} {fd : FuncData} {f_comparisons : Addr} {fd_comparisons : FuncData} (F : Fun K "size" "Condition.size" s_Condition_size f fd) (T : Gs K mg t_BOUND t_LETTERS t_LONGEST_NAME a_ALWAYS a_NEVER a_OPPOSITES a_RESERVED a_SIGNS a_BadName a_BadNumber a_BadSign a_Condition a_ElseputError a_TooLarge) (c_comparisons : Cal P w K mg base CX0 22 "comparisons" f_comparisons fd_comparisons ["tree"] (sp_comparisons K)) : FnOk P w K mg base CX0 23 f fd ["self"] (sp_Condition_size K) := by
  refine F.ok sc_Condition_size (fun vs H Q E h => len_Condition_size h) (fun cdv A outer s H vs Q E hr h => ?_)
  obtain ⟨a, t, rfl, ⟨C, dx, u, v, ss, hC, ha, ht, hu, hf, hl⟩, td, tl, q⟩ := h
  cases hC.symm.trans T.n_Condition
  refine ⟨_, (pss_one (ps_ret (pe_callB (lenK K) (by rfl) T.z_len PySem.boot_len (pa_cons (pe_call c_comparisons.G (hr.mono (by first | decide | omega)) rfl c_comparisons.m c_comparisons.kp c_comparisons.b .nil pass0 (pa_cons (e_f K (v_ 0)) pa_nil)) pa_nil)))), ?_⟩
  refine ⟨a, a_Condition, dx, _, _, rfl, ha, T.cl_Condition, T.na_Condition_tree, rfl, v, t, rfl, ht, td, tl, fun H' D xs s nD hD hx => ?_⟩
  refine .inl ⟨_, .inl (SqL.of hD), ?_⟩
  rw [hx.1]
  exact q _ s
end
section
variable {P : Program} {w : World} {K : PySem.W.Frag} {mg : Str → Option Value} {base : Heap}
variable {t_BOUND t_LETTERS t_LONGEST_NAME : Tok} {a_ALWAYS a_NEVER a_OPPOSITES a_RESERVED a_SIGNS a_BadName a_BadNumber a_BadSign a_Condition a_ElseputError a_TooLarge : Addr}
/-! ### joining -/
abbrev signs : List Str := ["<", "<=", "==", "!=", ">=", ">"]
theorem signs_asc : ∀ s ∈ signs, s.length ≤ 1000 ∧ Asc s := (by decide +kernel : ∀ s ∈ signs, s.length ≤ 1000 ∧ ∀ c ∈ s.cps.toList, c < 16 ^ 8)
theorem signs_ok : ∀ s ∈ signs, PyData.strOk s = true := by decide +kernel
def Tr.ok (t : Tr) : Prop := ∀ c ∈ t.cs, isName c.1 = true ∧ c.2.1 ∈ signs ∧ Bd c.2.2
theorem name_ok {z : Str} (h : isName z = true) : PyData.strOk z = true := by
  show z.cps.all _ = true
  rw [← Array.all_toList]
  refine List.all_eq_true.mpr fun c hc => ?_
  have hm := (isName_mem h).1 c hc
  have all : letters.cps.toList.all (fun c => decide (c < 0x110000)) = true := by decide +kernel
  exact List.all_eq_true.mp all c hm
def dat : Tr → PyData
  | .tt => .tuple [.str "always"]
  | .ff => .tuple [.str "never"]
  | .cmp f s n => .tuple [.str "compare", .str f, .str s, .int n]
  | .con w l r => .tuple [.str (wd w), dat l, dat r]
theorem TAt.dp {K : PySem.W.Frag} {H : Hp} : ∀ {t : Tr} {v : V}, TAt K H t v → Dp K H v (dat t)
  | .tt, _, ⟨a, e, h⟩ => e ▸ .tup h (.cons (.str _) .nil)
  | .ff, _, ⟨a, e, h⟩ => e ▸ .tup h (.cons (.str _) .nil)
  | .cmp _ _ _, _, ⟨a, e, h⟩ => e ▸ .tup h (.cons (.str _) (.cons (.str _) (.cons (.str _) (.cons (.int _) .nil))))
  | .con _ _ _, _, ⟨a, x, y, e, h, h1, h2⟩ => e ▸ .tup h (.cons (.str _) (.cons (TAt.dp h1) (.cons (TAt.dp h2) .nil)))
theorem TAt.ref {K : PySem.W.Frag} {H : Hp} : ∀ {t : Tr} {v : V}, TAt K H t v → ∃ a, v = .ref a
  | .tt, _, ⟨a, e, _⟩ => ⟨a, e⟩
  | .ff, _, ⟨a, e, _⟩ => ⟨a, e⟩
  | .cmp _ _ _, _, ⟨a, e, _⟩ => ⟨a, e⟩
  | .con _ _ _, _, ⟨a, _, _, e, _⟩ => ⟨a, e⟩
theorem Tr.ok.l {w : Bool} {l r : Tr} (h : (Tr.con w l r).ok) : l.ok := fun c hc => h c (List.mem_append.mpr (.inl hc))
theorem Tr.ok.r {w : Bool} {l r : Tr} (h : (Tr.con w l r).ok) : r.ok := fun c hc => h c (List.mem_append.mpr (.inr hc))
theorem dat_lay : ∀ {t : Tr}, t.ok → PyData.canLay0 (dat t) = true
  | .tt, _ => by decide +kernel
  | .ff, _ => by decide +kernel
  | .cmp f s n, h => by
    obtain ⟨h1, h2, _⟩ := h (f, s, n) (List.mem_singleton.mpr rfl)
    have e1 := name_ok h1
    have e2 := signs_ok s h2
    have e0 : PyData.strOk "compare" = true := by decide +kernel
    simp only [dat, PyData.canLay0, PyData.canLayAll0, e0, e1, e2, Bool.and_self]
  | .con w l r, h => by
    have e1 := dat_lay h.l
    have e2 := dat_lay h.r
    have e0 : PyData.strOk (wd w) = true := by cases w <;> decide +kernel
    simp only [dat, PyData.canLay0, PyData.canLayAll0, e0, e1, e2, Bool.and_self]
theorem dat_depth : ∀ t : Tr, (dat t).depth ≤ t.depth + 1
  | .tt => by simp [dat, PyData.depth, PyData.depthAll]
  | .ff => by simp [dat, PyData.depth, PyData.depthAll]
  | .cmp _ _ _ => by simp [dat, PyData.depth, PyData.depthAll]
  | .con w l r => by
    have h1 := dat_depth l
    have h2 := dat_depth r
    simp only [dat, PyData.depth, PyData.depthAll, Tr.depth]
    omega
theorem dat_shaped {t : Tr} (h : t.ok) (hd : t.depth < 40) : SeqAt.shaped (dat t) = true := by
  show ((dat t).canLay0 && decide ((dat t).depth ≤ 64)) = true
  rw [Bool.and_eq_true]
  have := dat_depth t
  exact ⟨dat_lay h, decide_eq_true (by omega)⟩
def bt (b : Bool) : Tr := if b then .tt else .ff
def Tr.is (b : Bool) : Tr → Bool
  | .tt => b
  | .ff => !b
  | _ => false
theorem bt_ok (b : Bool) : (bt b).ok := by cases b <;> exact fun _ h => nomatch h
theorem dat_is (t : Tr) (b : Bool) : PyData.eqv (dat t) (dat (bt b)) = t.is b := by
  have e1 : ((Str.ofString "always" : Str) == "never") = false := by decide +kernel
  have e2 : ((Str.ofString "never" : Str) == "always") = false := by decide +kernel
  cases b <;> cases t <;> simp only [bt, dat, Tr.is, PyData.eqv, PyData.eqvAll, Bool.and_false, Bool.and_true, beq_self_eq_true, if_true, e1, e2, Bool.not_true, Bool.not_false, Bool.false_eq_true, if_false]
def joinT (w : Bool) (l r : Tr) : Tr := if (l.is (!w) || r.is (!w)) = true then bt (!w) else if l.is w = true then r else if r.is w = true then l else .con w l r
def sp_joined_tree (K : PySem.W.Frag) : Sp := fun vs H Q _ => ∃ (w : Bool) (x y : V) (l r : Tr), vs = [.str (wd w), x, y] ∧ TAt K H l x ∧ TAt K H r y ∧ l.ok ∧ r.ok ∧ l.depth < 40 ∧ r.depth < 40 ∧ ∀ (H' : Hp) (v : V), Same H H' → TAt K H' (joinT w l r) v → Q v H'
theorem len_joined_tree {vs : List V} {H : Hp} {Q : VK} {E : XK} (h : sp_joined_tree K vs H Q E) : vs.length = 3 := by
  obtain ⟨_, _, _, _, _, rfl, _⟩ := h
  rfl
theorem ok_joined_tree {f : Addr} {fd : FuncData} (F : Fun K "joined_tree" "joined_tree" s_joined_tree f fd) (T : Gs K mg t_BOUND t_LETTERS t_LONGEST_NAME a_ALWAYS a_NEVER a_OPPOSITES a_RESERVED a_SIGNS a_BadName a_BadNumber a_BadSign a_Condition a_ElseputError a_TooLarge) : FnOk P w K mg base CX0 1 f fd ["word", "left", "right"] (sp_joined_tree K) := by
  refine F.ok sc_joined_tree (fun vs H Q E h => len_joined_tree h) (fun cdv A outer s H vs Q E hr h => ?_)
  obtain ⟨w, x, y, l, r, rfl, hl, hr', lo, ro, ld, rd, q⟩ := h
  refine ⟨_, (pss_cons (ps_asg (pe_ifExp (pt_c (eqK K hr.units) (v_ 0) pe_str) (pe_tup (pa_cons (pe_glob (v := .ref a_NEVER) rfl T.g_NEVER rfl) (pa_cons (pe_glob (v := .ref a_ALWAYS) rfl T.g_ALWAYS rfl) pa_nil))) (pe_tup (pa_cons (pe_glob (v := .ref a_ALWAYS) rfl T.g_ALWAYS rfl) (pa_cons (pe_glob (v := .ref a_NEVER) rfl T.g_NEVER rfl) pa_nil)))) (pg_tup (by rfl) (pgs_cons (pg_name (i := 3) sc_joined_tree.nd rfl (.inl rfl)) (pgs_cons (pg_name (i := 4) sc_joined_tree.nd rfl (.inl rfl)) pgs_nil)))) (pss_cons (ps_if (PW.pt (pw_or (pt_c (eqK K hr.units) (v_ 1) (v_ 3)) (pw_or1 (pt_c (eqK K hr.units) (v_ 2) (v_ 3))))) (pss_one (ps_ret (v_ 3))) pss_nil) (pss_cons (ps_if (pt_c (eqK K hr.units) (v_ 1) (v_ 4)) (pss_one (ps_ret (v_ 2))) pss_nil) (pss_cons (ps_if (pt_c (eqK K hr.units) (v_ 2) (v_ 4)) (pss_one (ps_ret (v_ 1))) pss_nil) (pss_one (ps_ret (pe_tup (pa_cons (v_ 0) (pa_cons (v_ 1) (pa_cons (v_ 2) pa_nil)))))))))), ?_⟩
  have cA : ∀ H, TAt K H .tt (.ref a_ALWAYS) := fun H => ⟨_, rfl, T.q_ALWAYS H⟩
  have cN : ∀ H, TAt K H .ff (.ref a_NEVER) := fun H => ⟨_, rfl, T.q_NEVER H⟩
  obtain ⟨a, rfl⟩ := hl.ref
  obtain ⟨b, rfl⟩ := hr'.ref
  unfold joinT at q
  cases w with
  | true =>
    refine ⟨(by show 2 ≤ sizeLine; decide), fun t nt => ?_⟩
    have s1 := same_new (o := .tup [.ref a_NEVER, .ref a_ALWAYS]) nt
    have ht := upd_same (H := H) (a := t) (o := .tup [.ref a_NEVER, .ref a_ALWAYS])
    generalize upd H t (.tup [.ref a_NEVER, .ref a_ALWAYS]) = H1 at s1 ht ⊢
    replace hl := hl.same s1
    replace hr' := hr'.same s1
    refine ⟨t, [.ref a_NEVER, .ref a_ALWAYS], rfl, SqT.of ht, rfl, _, _, rfl, _, _, rfl, rfl, ?_⟩
    have sd := dat_shaped (bt_ok false) (by decide : (bt false).depth < 40)
    have si := dat_shaped (bt_ok true) (by decide : (bt true).depth < 40)
    refine ⟨_, _, hl.dp, (cN H1).dp, dat_shaped lo ld, sd, ?_⟩
    rw [show PyData.eqv (dat l) (dat .ff) = l.is false from dat_is l false]
    refine ite2 (fun e => ?_) (fun e => ?_)
    · have e : l.is false = true := e
      rw [if_pos (by rw [show (!true) = false from rfl, e]; rfl)] at q
      exact q _ _ s1 (cN H1)
    have e1 : l.is false = false := Bool.eq_false_iff.mpr e
    clear e
    refine ⟨_, _, hr'.dp, (cN H1).dp, dat_shaped ro rd, sd, ?_⟩
    rw [show PyData.eqv (dat r) (dat .ff) = r.is false from dat_is r false]
    refine ite2 (fun e => ?_) (fun e => ?_)
    · have e : r.is false = true := e
      rw [if_pos (by rw [show (!true) = false from rfl, e, Bool.or_true])] at q
      exact q _ _ s1 (cN H1)
    have e2 : r.is false = false := Bool.eq_false_iff.mpr e
    clear e
    rw [if_neg (by rw [show (!true) = false from rfl, e1, e2]; decide)] at q
    refine ⟨_, _, hl.dp, (cA H1).dp, dat_shaped lo ld, si, ?_⟩
    rw [show PyData.eqv (dat l) (dat .tt) = l.is true from dat_is l true]
    refine ite2 (fun e => ?_) (fun e => ?_)
    · have e : l.is true = true := e
      rw [if_pos e] at q
      exact q _ _ s1 hr'
    have e : ¬ l.is true = true := e
    rw [if_neg e] at q
    clear e
    refine ⟨_, _, hr'.dp, (cA H1).dp, dat_shaped ro rd, si, ?_⟩
    rw [show PyData.eqv (dat r) (dat .tt) = r.is true from dat_is r true]
    refine ite2 (fun e => ?_) (fun e => ?_)
    · have e : r.is true = true := e
      rw [if_pos e] at q
      exact q _ _ s1 hl
    have e : ¬ r.is true = true := e
    rw [if_neg e] at q
    refine ⟨(by show 3 ≤ sizeLine; decide), fun u nu => ?_⟩
    have su := same_new (o := .tup [.str (wd true), .ref a, .ref b]) nu
    exact q _ _ (s1.trans su) ⟨u, .ref a, .ref b, rfl, SqT.of upd_same, hl.same su, hr'.same su⟩
  | false =>
    refine ⟨(by show 2 ≤ sizeLine; decide), fun t nt => ?_⟩
    have s1 := same_new (o := .tup [.ref a_ALWAYS, .ref a_NEVER]) nt
    have ht := upd_same (H := H) (a := t) (o := .tup [.ref a_ALWAYS, .ref a_NEVER])
    generalize upd H t (.tup [.ref a_ALWAYS, .ref a_NEVER]) = H1 at s1 ht ⊢
    replace hl := hl.same s1
    replace hr' := hr'.same s1
    refine ⟨t, [.ref a_ALWAYS, .ref a_NEVER], rfl, SqT.of ht, rfl, _, _, rfl, _, _, rfl, rfl, ?_⟩
    have sd := dat_shaped (bt_ok true) (by decide : (bt true).depth < 40)
    have si := dat_shaped (bt_ok false) (by decide : (bt false).depth < 40)
    refine ⟨_, _, hl.dp, (cA H1).dp, dat_shaped lo ld, sd, ?_⟩
    rw [show PyData.eqv (dat l) (dat .tt) = l.is true from dat_is l true]
    refine ite2 (fun e => ?_) (fun e => ?_)
    · have e : l.is true = true := e
      rw [if_pos (by rw [show (!false) = true from rfl, e]; rfl)] at q
      exact q _ _ s1 (cA H1)
    have e1 : l.is true = false := Bool.eq_false_iff.mpr e
    clear e
    refine ⟨_, _, hr'.dp, (cA H1).dp, dat_shaped ro rd, sd, ?_⟩
    rw [show PyData.eqv (dat r) (dat .tt) = r.is true from dat_is r true]
    refine ite2 (fun e => ?_) (fun e => ?_)
    · have e : r.is true = true := e
      rw [if_pos (by rw [show (!false) = true from rfl, e, Bool.or_true])] at q
      exact q _ _ s1 (cA H1)
    have e2 : r.is true = false := Bool.eq_false_iff.mpr e
    clear e
    rw [if_neg (by rw [show (!false) = true from rfl, e1, e2]; decide)] at q
    refine ⟨_, _, hl.dp, (cN H1).dp, dat_shaped lo ld, si, ?_⟩
    rw [show PyData.eqv (dat l) (dat .ff) = l.is false from dat_is l false]
    refine ite2 (fun e => ?_) (fun e => ?_)
    · have e : l.is false = true := e
      rw [if_pos e] at q
      exact q _ _ s1 hr'
    have e : ¬ l.is false = true := e
    rw [if_neg e] at q
    clear e
    refine ⟨_, _, hr'.dp, (cN H1).dp, dat_shaped ro rd, si, ?_⟩
    rw [show PyData.eqv (dat r) (dat .ff) = r.is false from dat_is r false]
    refine ite2 (fun e => ?_) (fun e => ?_)
    · have e : r.is false = true := e
      rw [if_pos e] at q
      exact q _ _ s1 hl
    have e : ¬ r.is false = true := e
    rw [if_neg e] at q
    refine ⟨(by show 3 ≤ sizeLine; decide), fun u nu => ?_⟩
    have su := same_new (o := .tup [.str (wd false), .ref a, .ref b]) nu
    exact q _ _ (s1.trans su) ⟨u, .ref a, .ref b, rfl, SqT.of upd_same, hl.same su, hr'.same su⟩
end
section
variable {P : Program} {w : World} {K : PySem.W.Frag} {mg : Str → Option Value} {base : Heap}
variable {t_BOUND t_LETTERS t_LONGEST_NAME : Tok} {a_ALWAYS a_NEVER a_OPPOSITES a_RESERVED a_SIGNS a_BadName a_BadNumber a_BadSign a_Condition a_ElseputError a_TooLarge : Addr}
theorem bt_depth (b : Bool) : (bt b).depth = 0 := by cases b <;> rfl
theorem bt_cs (b : Bool) : (bt b).cs = [] := by cases b <;> rfl
theorem joinT_ok {w : Bool} {l r : Tr} (hl : l.ok) (hr : r.ok) : (joinT w l r).ok := by
  unfold joinT
  split
  · exact bt_ok _
  split
  · exact hr
  split
  · exact hl
  · exact fun c hc => by
      rcases List.mem_append.mp hc with h | h
      · exact hl c h
      · exact hr c h
theorem joinT_depth {w : Bool} {l r : Tr} : (joinT w l r).depth ≤ max l.depth r.depth + 1 := by
  unfold joinT
  split
  · rw [bt_depth]; omega
  split
  · omega
  split
  · omega
  · exact Nat.le_refl _
theorem joinT_cs {w : Bool} {l r : Tr} : (joinT w l r).cs.length ≤ l.cs.length + r.cs.length := by
  unfold joinT
  split
  · rw [bt_cs]; exact Nat.zero_le _
  split
  · omega
  split
  · omega
  · show (l.cs ++ r.cs).length ≤ _
    rw [List.length_append]
    omega
/-- trees that conditions have here -/
structure Gd (t : Tr) : Prop where
  ok : t.ok
  dp : t.depth ≤ 9
  cs : t.cs.length ≤ 9
def BigO (K : PySem.W.Frag) (H : Hp) (E : XK) : Prop := ∀ (C d : Addr) (H' : Hp), PySem.W.nsIn K mainGlobals "TooLarge" = some (some (.ref C)) → Same H H' → H d = none → H' d = some (.xd [("most", .int 8)]) → E (.ref C) (some d) H'
theorem BigO.same {K : PySem.W.Frag} {H H1 : Hp} {E : XK} (h : BigO K H E) (s : Same H H1) : BigO K H1 E := fun C d H' hC s2 nd hd => h C d H' hC (s.trans s2) (Same.free s nd) hd
def JoinO (K : PySem.W.Frag) (H : Hp) (w : Bool) (l r : Tr) (Q : VK) (E : XK) : Prop := if (joinT w l r).cs.length ≤ 8 then ∀ (H' : Hp) (c : Addr), Same H H' → H c = none → CnAt K H' c (joinT w l r) → Q (.ref c) H' else BigO K H E
def sp_joined (K : PySem.W.Frag) : Sp := fun vs H Q E => ∃ (w : Bool) (a b : Addr) (l r : Tr), vs = [.str (wd w), .ref a, .ref b] ∧ CnAt K H a l ∧ CnAt K H b r ∧ Gd l ∧ Gd r ∧ JoinO K H w l r Q E
theorem len_joined {vs : List V} {H : Hp} {Q : VK} {E : XK} (h : sp_joined K vs H Q E) : vs.length = 3 := by
  obtain ⟨_, _, _, _, _, rfl, _⟩ := h
  rfl
theorem ok_joined {f : Addr} {fd : FuncData} {f_joined_tree : Addr} {fd_joined_tree : FuncData} {f_comparisons : Addr} {fd_comparisons : FuncData} {f_Condition___init__ : Addr} {fd_Condition___init__ : FuncData} {f_TooLarge : Addr} {fd_TooLarge : FuncData} (F : Fun K "joined" "joined" s_joined f fd) (T : Gs K mg t_BOUND t_LETTERS t_LONGEST_NAME a_ALWAYS a_NEVER a_OPPOSITES a_RESERVED a_SIGNS a_BadName a_BadNumber a_BadSign a_Condition a_ElseputError a_TooLarge) (c_joined_tree : Cal P w K mg base CX0 1 "joined_tree" f_joined_tree fd_joined_tree ["word", "left", "right"] (sp_joined_tree K)) (c_comparisons : Cal P w K mg base CX0 22 "comparisons" f_comparisons fd_comparisons ["tree"] (sp_comparisons K)) (c_Condition___init__ : CalI P w K mg base CX0 23 "Condition" a_Condition f_Condition___init__ fd_Condition___init__ ["self", "tree"] (sp_Condition___init__ K)) (c_TooLarge : CalE P w K mg base 1 "TooLarge" a_TooLarge f_TooLarge fd_TooLarge ["self", "most"] okx_TooLarge fs_TooLarge ["most"]) : FnOk P w K mg base (L2.CX P w) 25 f fd ["word", "left", "right"] (sp_joined K) := by
  refine F.okX sc_joined (fun vs H Q E h => len_joined h) (fun cdv A outer s H vs Q E hr h => ?_)
  obtain ⟨w, a, b, l, r, rfl, hA, hB, gl, gr, q⟩ := h
  obtain ⟨C, dx, u, x, ss, hC, ha, hx, _⟩ := id hA
  cases hC.symm.trans T.n_Condition
  obtain ⟨C, dy, u2, y, ss2, hC, hb, hy, _⟩ := id hB
  cases hC.symm.trans T.n_Condition
  have g1 := gl.dp
  have g2 := gr.dp
  have g3 := gl.cs
  have g4 := gr.cs
  have jd : (joinT w l r).depth ≤ max l.depth r.depth + 1 := joinT_depth
  have jc : (joinT w l r).cs.length ≤ l.cs.length + r.cs.length := joinT_cs
  unfold JoinO at q
  refine ⟨_, (pss_cons (ps_set (i := 3) sc_joined.nd rfl (.inl rfl) (pe_call c_joined_tree.G (hr.mono (by first | decide | omega)) rfl c_joined_tree.m c_joined_tree.kp c_joined_tree.b .nil pass0 (pa_cons (v_ 0) (pa_cons (e_f K (v_ 1)) (pa_cons (e_f K (v_ 2)) pa_nil))))) (pss_cons (ps_if (pt_c op_gtM (pe_callB (lenK K) (by rfl) T.z_len PySem.boot_len (pa_cons (pe_call c_comparisons.G (hr.mono (by first | decide | omega)) rfl c_comparisons.m c_comparisons.kp c_comparisons.b .nil pass0 (pa_cons (v_ 3) pa_nil)) pa_nil)) (e_cv K (pe_glob (v := .ref a_Condition) rfl T.g_Condition rfl))) (pss_one (ps_raise rfl (takes_of rfl rfl rfl rfl) (pmk_oex c_TooLarge.X.oex c_TooLarge.X.iC c_TooLarge.X.tI c_TooLarge.G (hr.mono (by first | decide | omega)) c_TooLarge.b .nil pass0 rfl c_TooLarge.m (pa_cons (e_cv K (pe_glob (v := .ref a_Condition) rfl T.g_Condition rfl)) pa_nil)))) pss_nil) (pss_one (ps_ret (pe_make c_Condition___init__.mkc c_Condition___init__.G (hr.mono (by first | decide | omega)) rfl c_Condition___init__.m c_Condition___init__.b .nil pass0 (pa_cons (v_ 3) pa_nil)))))), ?_⟩
  refine ⟨a, a_Condition, dx, _, _, rfl, ha, T.cl_Condition, T.na_Condition_tree, rfl, b, a_Condition, dy, _, _, rfl, hb, T.cl_Condition, T.na_Condition_tree, rfl, ?_⟩
  refine ⟨w, x, y, l, r, rfl, hx, hy, gl.ok, gr.ok, by omega, by omega, fun H1 v s1 hv => ?_⟩
  generalize joinT w l r = j at q jd jc hv
  refine ⟨v, j, rfl, hv, by omega, by omega, fun H2 D xs s2 nD hD hxs => ?_⟩
  refine .inl ⟨_, .inl (SqL.of hD), ?_⟩
  obtain ⟨mu, hmu⟩ := T.cv_Condition_MOST
  refine ⟨a_Condition, _, _, _, rfl, T.rd_Condition, hmu, ?_⟩
  rw [hxs.1]
  have s12 := s1.trans s2
  refine ite2 (fun e => ?_) (fun e => ?_)
  · have e : ¬ j.cs.length ≤ 8 := by
      have e : (8 : Int) < (j.cs.length : Int) := of_decide_eq_true e
      omega
    rw [if_neg e] at q
    refine ⟨a_Condition, _, _, _, rfl, T.rd_Condition, hmu, ?_⟩
    refine mk_spE (by show 1 ≤ 1000; decide) ⟨8, rfl, by decide, by decide⟩ (fun d nd => ?_)
    exact q a_TooLarge d _ T.n_TooLarge (s12.trans (same_new nd)) (Same.free s12 nd) upd_same
  · have e : j.cs.length ≤ 8 := by
      have e : ¬ (8 : Int) < (j.cs.length : Int) := of_decide_eq_false (Bool.eq_false_iff.mpr e)
      omega
    rw [if_pos e] at q
    intro c dc nc ndc nec
    have sk := same_mk (C := a_Condition) nc ndc
    refine ⟨c, a_Condition, dc, v, j, rfl, T.n_Condition, upd_same, (hv.same s2).same sk, by omega, by omega, fun H3 bt hA => ⟨rfl, ?_⟩⟩
    have s3 : Same H2 H3 := fun c o hc => bt c o (ne_of_none hc nc) (sk _ _ hc)
    exact q H3 c (s12.trans s3) (Same.free s12 nc) hA
def sp_Condition___and__ (K : PySem.W.Frag) : Sp := fun vs H Q E => ∃ (a b : Addr) (l r : Tr), vs = [.ref a, .ref b] ∧ CnAt K H a l ∧ CnAt K H b r ∧ Gd l ∧ Gd r ∧ JoinO K H true l r Q E
theorem len_Condition___and__ {vs : List V} {H : Hp} {Q : VK} {E : XK} (h : sp_Condition___and__ K vs H Q E) : vs.length = 2 := by
  obtain ⟨_, _, _, _, rfl, _⟩ := h
  rfl
theorem ok_Condition___and__ {f : Addr} {fd : FuncData} {f_joined : Addr} {fd_joined : FuncData} (F : Fun K "__and__" "Condition.__and__" s_Condition___and__ f fd) (T : Gs K mg t_BOUND t_LETTERS t_LONGEST_NAME a_ALWAYS a_NEVER a_OPPOSITES a_RESERVED a_SIGNS a_BadName a_BadNumber a_BadSign a_Condition a_ElseputError a_TooLarge) (c_joined : Cal P w K mg base (L2.CX P w) 25 "joined" f_joined fd_joined ["word", "left", "right"] (sp_joined K)) : FnOk P w K mg base (L2.CX P w) 26 f fd ["self", "other"] (sp_Condition___and__ K) := by
  refine F.okX sc_Condition___and__ (fun vs H Q E h => len_Condition___and__ h) (fun cdv A outer s H vs Q E hr h => ?_)
  obtain ⟨a, b, l, r, rfl, h1, h2, h3, h4, q⟩ := h
  exact ⟨_, (pss_one (ps_ret (pe_call c_joined.G (hr.mono (by first | decide | omega)) rfl c_joined.m c_joined.kp c_joined.b .nil (passes_call (takes_of rfl rfl rfl rfl) (fun _ _ _ _ h => h)) (pa_cons pe_str (pa_cons (v_ 0) (pa_cons (v_ 1) pa_nil)))))), true, a, b, l, r, rfl, h1, h2, h3, h4, q⟩
def sp_Condition___or__ (K : PySem.W.Frag) : Sp := fun vs H Q E => ∃ (a b : Addr) (l r : Tr), vs = [.ref a, .ref b] ∧ CnAt K H a l ∧ CnAt K H b r ∧ Gd l ∧ Gd r ∧ JoinO K H false l r Q E
theorem len_Condition___or__ {vs : List V} {H : Hp} {Q : VK} {E : XK} (h : sp_Condition___or__ K vs H Q E) : vs.length = 2 := by
  obtain ⟨_, _, _, _, rfl, _⟩ := h
  rfl
theorem ok_Condition___or__ {f : Addr} {fd : FuncData} {f_joined : Addr} {fd_joined : FuncData} (F : Fun K "__or__" "Condition.__or__" s_Condition___or__ f fd) (T : Gs K mg t_BOUND t_LETTERS t_LONGEST_NAME a_ALWAYS a_NEVER a_OPPOSITES a_RESERVED a_SIGNS a_BadName a_BadNumber a_BadSign a_Condition a_ElseputError a_TooLarge) (c_joined : Cal P w K mg base (L2.CX P w) 25 "joined" f_joined fd_joined ["word", "left", "right"] (sp_joined K)) : FnOk P w K mg base (L2.CX P w) 26 f fd ["self", "other"] (sp_Condition___or__ K) := by
  refine F.okX sc_Condition___or__ (fun vs H Q E h => len_Condition___or__ h) (fun cdv A outer s H vs Q E hr h => ?_)
  obtain ⟨a, b, l, r, rfl, h1, h2, h3, h4, q⟩ := h
  exact ⟨_, (pss_one (ps_ret (pe_call c_joined.G (hr.mono (by first | decide | omega)) rfl c_joined.m c_joined.kp c_joined.b .nil (passes_call (takes_of rfl rfl rfl rfl) (fun _ _ _ _ h => h)) (pa_cons pe_str (pa_cons (v_ 0) (pa_cons (v_ 1) pa_nil)))))), false, a, b, l, r, rfl, h1, h2, h3, h4, q⟩
def sp_Condition_always (K : PySem.W.Frag) : Sp := fun vs H Q _ => vs = [] ∧ ∀ (H' : Hp) (c : Addr), Same H H' → H c = none → CnAt K H' c .tt → Q (.ref c) H'
theorem len_Condition_always {vs : List V} {H : Hp} {Q : VK} {E : XK} (h : sp_Condition_always K vs H Q E) : vs.length = 0 := by
  obtain ⟨rfl, _⟩ := h
  rfl
theorem ok_Condition_always {f : Addr} {fd : FuncData} {f_Condition___init__ : Addr} {fd_Condition___init__ : FuncData} (F : Fun K "always" "Condition.always" s_Condition_always f fd) (T : Gs K mg t_BOUND t_LETTERS t_LONGEST_NAME a_ALWAYS a_NEVER a_OPPOSITES a_RESERVED a_SIGNS a_BadName a_BadNumber a_BadSign a_Condition a_ElseputError a_TooLarge) (c_Condition___init__ : CalI P w K mg base CX0 23 "Condition" a_Condition f_Condition___init__ fd_Condition___init__ ["self", "tree"] (sp_Condition___init__ K)) : FnOk P w K mg base CX0 25 f fd [] (sp_Condition_always K) := by
  refine F.ok sc_Condition_always (fun vs H Q E h => len_Condition_always h) (fun cdv A outer s H vs Q E hr h => ?_)
  obtain ⟨rfl, q⟩ := h
  refine ⟨_, (pss_one (ps_ret (pe_make c_Condition___init__.mkc c_Condition___init__.G (hr.mono (by first | decide | omega)) rfl c_Condition___init__.m c_Condition___init__.b .nil pass0 (pa_cons (pe_glob (v := .ref a_ALWAYS) rfl T.g_ALWAYS rfl) pa_nil)))), ?_⟩
  intro c dc nc ndc nec
  have sk := same_mk (C := a_Condition) nc ndc
  refine ⟨c, a_Condition, dc, _, .tt, rfl, T.n_Condition, upd_same, ⟨_, rfl, T.q_ALWAYS _⟩, by decide, by decide, fun H3 bt hA => ⟨rfl, ?_⟩⟩
  exact q H3 c (fun c o hc => bt c o (ne_of_none hc nc) (sk _ _ hc)) nc hA
def sp_Condition_never (K : PySem.W.Frag) : Sp := fun vs H Q _ => vs = [] ∧ ∀ (H' : Hp) (c : Addr), Same H H' → H c = none → CnAt K H' c .ff → Q (.ref c) H'
theorem len_Condition_never {vs : List V} {H : Hp} {Q : VK} {E : XK} (h : sp_Condition_never K vs H Q E) : vs.length = 0 := by
  obtain ⟨rfl, _⟩ := h
  rfl
theorem ok_Condition_never {f : Addr} {fd : FuncData} {f_Condition___init__ : Addr} {fd_Condition___init__ : FuncData} (F : Fun K "never" "Condition.never" s_Condition_never f fd) (T : Gs K mg t_BOUND t_LETTERS t_LONGEST_NAME a_ALWAYS a_NEVER a_OPPOSITES a_RESERVED a_SIGNS a_BadName a_BadNumber a_BadSign a_Condition a_ElseputError a_TooLarge) (c_Condition___init__ : CalI P w K mg base CX0 23 "Condition" a_Condition f_Condition___init__ fd_Condition___init__ ["self", "tree"] (sp_Condition___init__ K)) : FnOk P w K mg base CX0 25 f fd [] (sp_Condition_never K) := by
  refine F.ok sc_Condition_never (fun vs H Q E h => len_Condition_never h) (fun cdv A outer s H vs Q E hr h => ?_)
  obtain ⟨rfl, q⟩ := h
  refine ⟨_, (pss_one (ps_ret (pe_make c_Condition___init__.mkc c_Condition___init__.G (hr.mono (by first | decide | omega)) rfl c_Condition___init__.m c_Condition___init__.b .nil pass0 (pa_cons (pe_glob (v := .ref a_NEVER) rfl T.g_NEVER rfl) pa_nil)))), ?_⟩
  intro c dc nc ndc nec
  have sk := same_mk (C := a_Condition) nc ndc
  refine ⟨c, a_Condition, dc, _, .ff, rfl, T.n_Condition, upd_same, ⟨_, rfl, T.q_NEVER _⟩, by decide, by decide, fun H3 bt hA => ⟨rfl, ?_⟩⟩
  exact q H3 c (fun c o hc => bt c o (ne_of_none hc nc) (sk _ _ hc)) nc hA
theorem bd_small {i : Int} (h : Bd i) : i.natAbs < 2 ^ 200 := by
  have e : (2 : Nat) ^ 200 = 1606938044258990275541962092341162602522202993782792835301376 := by decide +kernel
  rw [e]
  unfold Bd at h
  omega
theorem inB_of {i : Int} (h : Bd i) : inB i = true := by
  unfold inB
  rw [decide_eq_true h.1, decide_eq_true h.2]
  rfl
def sp_Condition_compare (K : PySem.W.Frag) : Sp := fun vs H Q _ => ∃ (f s : Str) (n : Int), vs = [.str f, .str s, .int n] ∧ (Tr.cmp f s n).ok ∧ ∀ (H' : Hp) (a : Addr), Same H H' → H a = none → CnAt K H' a (.cmp f s n) → Q (.ref a) H'
theorem len_Condition_compare {vs : List V} {H : Hp} {Q : VK} {E : XK} (h : sp_Condition_compare K vs H Q E) : vs.length = 3 := by
  obtain ⟨_, _, _, rfl, _⟩ := h
  rfl
theorem ok_Condition_compare {f : Addr} {fd : FuncData} {f_check_name : Addr} {fd_check_name : FuncData} {f_check_number : Addr} {fd_check_number : FuncData} {f_Condition___init__ : Addr} {fd_Condition___init__ : FuncData} {f_BadSign : Addr} {fd_BadSign : FuncData} (F : Fun K "compare" "Condition.compare" s_Condition_compare f fd) (T : Gs K mg t_BOUND t_LETTERS t_LONGEST_NAME a_ALWAYS a_NEVER a_OPPOSITES a_RESERVED a_SIGNS a_BadName a_BadNumber a_BadSign a_Condition a_ElseputError a_TooLarge) (c_check_name : Cal P w K mg base (L2.CX P w) 3 "check_name" f_check_name fd_check_name ["text"] (sp_check_name K)) (c_check_number : Cal P w K mg base (L2.CX P w) 3 "check_number" f_check_number fd_check_number ["value"] (sp_check_number K)) (c_Condition___init__ : CalI P w K mg base CX0 23 "Condition" a_Condition f_Condition___init__ fd_Condition___init__ ["self", "tree"] (sp_Condition___init__ K)) (c_BadSign : CalE P w K mg base 1 "BadSign" a_BadSign f_BadSign fd_BadSign ["self", "sign"] okx_BadSign fs_BadSign ["sign"]) : FnOk P w K mg base (L2.CX P w) 25 f fd ["field", "sign", "number"] (sp_Condition_compare K) := by
  refine F.okX sc_Condition_compare (fun vs H Q E h => len_Condition_compare h) (fun cdv A outer s H vs Q E hr h => ?_)
  obtain ⟨f, s, n, rfl, ho, q⟩ := h
  obtain ⟨hf, hs, hn⟩ := ho (f, s, n) (List.mem_singleton.mpr rfl)
  have hf : isName f = true := hf
  have hs : s ∈ signs := hs
  have hn : Bd n := hn
  have f1 : f.length ≤ 1000 := by have := (isName_mem hf).2.2.1; omega
  refine ⟨_, (pss_cons (ps_expr (pe_call c_check_name.G (hr.mono (by first | decide | omega)) rfl c_check_name.m c_check_name.kp c_check_name.b .nil (passes_call (takes_of rfl rfl rfl rfl) (fun _ _ _ _ h => h)) (pa_cons (v_ 0) pa_nil))) (pss_cons (ps_if (pt_c (notInK K) (v_ 1) (pe_glob (v := .ref a_SIGNS) rfl T.g_SIGNS rfl)) (pss_one (ps_raise rfl (takes_of rfl rfl rfl rfl) (pmk_oex c_BadSign.X.oex c_BadSign.X.iC c_BadSign.X.tI c_BadSign.G (hr.mono (by first | decide | omega)) c_BadSign.b .nil pass0 rfl c_BadSign.m (pa_cons (v_ 1) pa_nil)))) pss_nil) (pss_cons (ps_expr (pe_call c_check_number.G (hr.mono (by first | decide | omega)) rfl c_check_number.m c_check_number.kp c_check_number.b .nil (passes_call (takes_of rfl rfl rfl rfl) (fun _ _ _ _ h => h)) (pa_cons (v_ 2) pa_nil))) (pss_one (ps_ret (pe_make c_Condition___init__.mkc c_Condition___init__.G (hr.mono (by first | decide | omega)) rfl c_Condition___init__.m c_Condition___init__.b .nil pass0 (pa_cons (pe_tup (pa_cons pe_str (pa_cons (v_ 0) (pa_cons (v_ 1) (pa_cons (v_ 2) pa_nil))))) pa_nil))))))), ?_⟩
  refine ⟨f, rfl, f1, isName_asc hf, ?_⟩
  rw [if_pos hf]
  intro H1 sm
  refine ⟨_, .inr (T.q_SIGNS _), rfl, rfl, ?_⟩
  refine ite2 (fun e => ?_) (fun _ => ?_)
  · exfalso
    have e : (!inV (.str s) (signs.map V.str)) = true := e
    rw [inV_str, decide_eq_true hs] at e
    cases e
  refine ⟨n, rfl, bd_small hn, ?_⟩
  rw [if_pos (inB_of hn)]
  refine ⟨(by show 4 ≤ sizeLine; decide), fun t nt => ?_⟩
  have st := same_new (o := .tup [.str "compare", .str f, .str s, .int n]) nt
  have ht := upd_same (H := H1) (a := t) (o := .tup [.str "compare", .str f, .str s, .int n])
  generalize upd H1 t (.tup [.str "compare", .str f, .str s, .int n]) = H2 at st ht ⊢
  intro a da na nda nea
  have sk := same_mk (C := a_Condition) na nda
  refine ⟨a, a_Condition, da, _, .cmp f s n, rfl, T.n_Condition, upd_same, ⟨t, rfl, SqT.of (sk _ _ ht)⟩, (by show 0 < 20; decide), (by show 1 ≤ 50; decide), fun H3 b hA => ⟨rfl, ?_⟩⟩
  have s3 : Same H2 H3 := fun c o hc => b c o (ne_of_none hc na) (sk _ _ hc)
  exact q H3 a ((sm.trans st).trans s3) (Same.free (sm.trans st) na) hA
end
section
variable {P : Program} {w : World} {K : PySem.W.Frag} {mg : Str → Option Value} {base : Heap}
variable {t_BOUND t_LETTERS t_LONGEST_NAME : Tok} {a_ALWAYS a_NEVER a_OPPOSITES a_RESERVED a_SIGNS a_BadName a_BadNumber a_BadSign a_Condition a_ElseputError a_TooLarge : Addr}
/-! ### opposites -/
abbrev oppL : List (Str × Str) := [("<", ">="), (">=", "<"), ("<=", ">"), (">", "<="), ("==", "!="), ("!=", "==")]
def oppS (s : Str) : Str := ((oppL.find? fun p => decide (p.1 = s)).map (·.2)).getD "=="
theorem oppS_mem : ∀ s ∈ signs, (s, oppS s) ∈ oppL ∧ oppS s ∈ signs ∧ oppS (oppS s) = s := by decide +kernel
def oppT : Tr → Tr
  | .tt => .ff
  | .ff => .tt
  | .cmp f s n => .cmp f (oppS s) n
  | .con w l r => .con (!w) (oppT l) (oppT r)
theorem oppT_cs : ∀ t : Tr, (oppT t).cs = t.cs.map fun c => (c.1, oppS c.2.1, c.2.2)
  | .tt => rfl
  | .ff => rfl
  | .cmp _ _ _ => rfl
  | .con _ l r => by
    show (oppT l).cs ++ (oppT r).cs = (l.cs ++ r.cs).map _
    rw [oppT_cs l, oppT_cs r, List.map_append]
theorem oppT_depth : ∀ t : Tr, (oppT t).depth = t.depth
  | .tt => rfl
  | .ff => rfl
  | .cmp _ _ _ => rfl
  | .con _ l r => by
    show max (oppT l).depth (oppT r).depth + 1 = max l.depth r.depth + 1
    rw [oppT_depth l, oppT_depth r]
theorem oppT_ok {t : Tr} (h : t.ok) : (oppT t).ok := fun c hc => by
  rw [oppT_cs] at hc
  obtain ⟨d, hd, rfl⟩ := List.mem_map.mp hc
  obtain ⟨h1, h2, h3⟩ := h d hd
  exact ⟨h1, (oppS_mem _ h2).2.1, h3⟩
theorem oppT_flds (t : Tr) : (oppT t).flds = t.flds := by
  unfold Tr.flds
  rw [oppT_cs, List.map_map]
  rfl
theorem oppT_opp : ∀ {t : Tr}, t.ok → oppT (oppT t) = t
  | .tt, _ => rfl
  | .ff, _ => rfl
  | .cmp f s n, h => by
    obtain ⟨_, h2, _⟩ := h (f, s, n) (List.mem_singleton.mpr rfl)
    show Tr.cmp f (oppS (oppS s)) n = _
    rw [(oppS_mem s h2).2.2]
  | .con w l r, h => by
    show Tr.con (!!w) (oppT (oppT l)) (oppT (oppT r)) = _
    rw [oppT_opp h.l, oppT_opp h.r, Bool.not_not]
theorem oppT_gd {t : Tr} (h : Gd t) : Gd (oppT t) := ⟨oppT_ok h.ok, by rw [oppT_depth]; exact h.dp, by rw [oppT_cs, List.length_map]; exact h.cs⟩
def spOpp (n : Nat) : PySem.W.Frag → Sp := fun K vs H Q _ => ∃ (v : V) (t : Tr), vs = [v] ∧ TAt K H t v ∧ t.depth < n ∧ t.depth < 40 ∧ t.ok ∧ ∀ (H' : Hp) (u : V), Same H H' → TAt K H' (oppT t) u → Q u H'
theorem len_opp {n : Nat} {vs : List V} {H : Hp} {Q : VK} {E : XK} (h : spOpp n K vs H Q E) : vs.length = 1 := by
  obtain ⟨_, _, rfl, _⟩ := h
  rfl
theorem opp_step {n k : Nat} {f : Addr} {fd : FuncData} (F : Fun K "opposite" "opposite" s_opposite f fd) (T : Gs K mg t_BOUND t_LETTERS t_LONGEST_NAME a_ALWAYS a_NEVER a_OPPOSITES a_RESERVED a_SIGNS a_BadName a_BadNumber a_BadSign a_Condition a_ElseputError a_TooLarge) (kd : ∀ p ∈ oppL, KDct K w a_OPPOSITES p.1 (.str p.2))
    (c_opposite : Cal P w K mg base CX0 k "opposite" f fd ["tree"] (spOpp n K)) (hk : 1 ≤ k) : FnOk P w K mg base CX0 (k + 1) f fd ["tree"] (spOpp (n + 1) K) := by
  refine F.ok sc_opposite (fun vs H Q E h => len_opp h) (fun cdv A outer s H vs Q E hr h => ?_)
  obtain ⟨v, t, rfl, ht, hd, h40, hok, q⟩ := h
  refine ⟨_, (pss_cons (ps_if (pt_c (eqK K hr.units) (v_ 0) (pe_glob (v := .ref a_ALWAYS) rfl T.g_ALWAYS rfl)) (pss_one (ps_ret (pe_glob (v := .ref a_NEVER) rfl T.g_NEVER rfl))) pss_nil) (pss_cons (ps_if (pt_c (eqK K hr.units) (v_ 0) (pe_glob (v := .ref a_NEVER) rfl T.g_NEVER rfl)) (pss_one (ps_ret (pe_glob (v := .ref a_ALWAYS) rfl T.g_ALWAYS rfl))) pss_nil) (pss_cons (ps_if (pt_c (eqK K hr.units) (e_x K (v_ 0) pe_int) pe_str) (pss_one (ps_ret (pe_tup (pa_cons pe_str (pa_cons (e_x K (v_ 0) pe_int) (pa_cons (e_xD K w (pe_glob (v := .ref a_OPPOSITES) rfl T.g_OPPOSITES rfl) (e_x K (v_ 0) pe_int)) (pa_cons (e_x K (v_ 0) pe_int) pa_nil))))))) pss_nil) (pss_cons (ps_set (i := 1) sc_opposite.nd rfl (.inl rfl) (pe_ifExp (pt_c (eqK K hr.units) (e_x K (v_ 0) pe_int) pe_str) pe_str pe_str)) (pss_one (ps_ret (pe_tup (pa_cons (v_ 1) (pa_cons (pe_call c_opposite.G (hr.mono (by first | decide | omega)) rfl c_opposite.m c_opposite.kp c_opposite.b .nil pass0 (pa_cons (e_x K (v_ 0) pe_int) pa_nil)) (pa_cons (pe_call c_opposite.G (hr.mono (by first | decide | omega)) rfl c_opposite.m c_opposite.kp c_opposite.b .nil pass0 (pa_cons (e_x K (v_ 0) pe_int) pa_nil)) pa_nil)))))))))), ?_⟩
  have cA : ∀ H, TAt K H .tt (.ref a_ALWAYS) := fun H => ⟨_, rfl, T.q_ALWAYS H⟩
  have cN : ∀ H, TAt K H .ff (.ref a_NEVER) := fun H => ⟨_, rfl, T.q_NEVER H⟩
  obtain ⟨a, rfl⟩ := ht.ref
  have sA := dat_shaped (bt_ok true) (by decide : (bt true).depth < 40)
  have sN := dat_shaped (bt_ok false) (by decide : (bt false).depth < 40)
  refine ⟨_, _, ht.dp, (cA H).dp, dat_shaped hok h40, sA, ?_⟩
  rw [show PyData.eqv (dat t) (dat .tt) = t.is true from dat_is t true]
  cases t with
  | tt => exact q _ _ (Same.refl _) (cN H)
  | ff =>
    refine ⟨_, _, ht.dp, (cN H).dp, dat_shaped hok h40, sN, ?_⟩
    rw [show PyData.eqv (dat .ff) (dat .ff) = true from dat_is .ff false]
    exact q _ _ (Same.refl _) (cA H)
  | cmp g s m =>
    refine ⟨_, _, ht.dp, (cN H).dp, dat_shaped hok h40, sN, ?_⟩
    rw [show PyData.eqv (dat (.cmp g s m)) (dat .ff) = false from dat_is (.cmp g s m) false]
    obtain ⟨a', e, ha⟩ := ht
    cases e
    obtain ⟨_, hs, _⟩ := hok (g, s, m) (List.mem_singleton.mpr rfl)
    have hs : s ∈ signs := hs
    have i2 : atI [V.str "compare", .str g, .str s, .int m] (2 : Int) = some (.str s) := rfl
    have i3 : atI [V.str "compare", .str g, .str s, .int m] (3 : Int) = some (.int m) := rfl
    refine ⟨_, .inr ha, .str "compare", rfl, ?_⟩
    refine ⟨_, .inr ha, .str g, rfl, _, .inr ha, .str s, i2, a_OPPOSITES, s, .str (oppS s), rfl, rfl, kd _ (oppS_mem s hs).1, _, .inr ha, .int m, i3, ?_⟩
    refine ⟨(by show 4 ≤ sizeLine; decide), fun u nu => ?_⟩
    exact q _ _ (same_new nu) ⟨u, rfl, SqT.of upd_same⟩
  | con w' l r =>
    refine ⟨_, _, ht.dp, (cN H).dp, dat_shaped hok h40, sN, ?_⟩
    rw [show PyData.eqv (dat (.con w' l r)) (dat .ff) = false from dat_is (.con w' l r) false]
    obtain ⟨a', x, y, e, ha, hx, hy⟩ := ht
    cases e
    have i1 : atI [V.str (wd w'), x, y] (1 : Int) = some x := rfl
    have i2 : atI [V.str (wd w'), x, y] (2 : Int) = some y := rfl
    have dd : max l.depth r.depth + 1 < n + 1 := hd
    have d40 : max l.depth r.depth + 1 < 40 := h40
    refine ⟨_, .inr ha, .str (wd w'), rfl, ?_⟩
    refine ite2 (fun e => ?_) (fun _ => ?_)
    · cases w' <;> exact absurd e (by decide +kernel)
    refine ⟨_, .inr ha, .str (wd w'), rfl, ?_⟩
    cases w' with
    | true =>
      refine ⟨_, .inr ha, x, i1, x, l, rfl, hx, by omega, by omega, hok.l, fun H1 x' s1 hx' => ?_⟩
      refine ⟨_, .inr (SqT.same ha s1), y, i2, y, r, rfl, hy.same s1, by omega, by omega, hok.r, fun H2 y' s2 hy' => ?_⟩
      refine ⟨(by show 3 ≤ sizeLine; decide), fun u nu => ?_⟩
      have su := same_new (o := .tup [.str "or", x', y']) nu
      exact q _ _ ((s1.trans s2).trans su) ⟨u, x', y', rfl, SqT.of upd_same, (hx'.same s2).same su, hy'.same su⟩
    | false =>
      refine ⟨_, .inr ha, x, i1, x, l, rfl, hx, by omega, by omega, hok.l, fun H1 x' s1 hx' => ?_⟩
      refine ⟨_, .inr (SqT.same ha s1), y, i2, y, r, rfl, hy.same s1, by omega, by omega, hok.r, fun H2 y' s2 hy' => ?_⟩
      refine ⟨(by show 3 ≤ sizeLine; decide), fun u nu => ?_⟩
      have su := same_new (o := .tup [.str "and", x', y']) nu
      exact q _ _ ((s1.trans s2).trans su) ⟨u, x', y', rfl, SqT.of upd_same, (hx'.same s2).same su, hy'.same su⟩
theorem opp_all {f : Addr} {fd : FuncData} (F : Fun K "opposite" "opposite" s_opposite f fd) (T : Gs K mg t_BOUND t_LETTERS t_LONGEST_NAME a_ALWAYS a_NEVER a_OPPOSITES a_RESERVED a_SIGNS a_BadName a_BadNumber a_BadSign a_Condition a_ElseputError a_TooLarge) (kd : ∀ p ∈ oppL, KDct K w a_OPPOSITES p.1 (.str p.2))
    (b : Binds K fd ["tree"] []) (kp : PySem.W.keepIn K (.ref f) = true) (m : mg "opposite" = some (.ref f)) : ∀ n : Nat, FnOk P w K mg base CX0 (n + 2) f fd ["tree"] (spOpp n K)
  | 0 => ⟨fun _ _ _ _ h => len_opp h, by
    intro A outer s H args us vs Q E _ _ _ _ h
    obtain ⟨_, _, _, _, h, _⟩ := h
    exact absurd h (Nat.not_lt_zero _)⟩
  | n + 1 => opp_step F T kd ⟨opp_all F T kd b kp m n, b, kp, m⟩ (by omega)
def sp_opposite : PySem.W.Frag → Sp := spOpp 20
theorem ok_opposite {f : Addr} {fd : FuncData} (F : Fun K "opposite" "opposite" s_opposite f fd) (T : Gs K mg t_BOUND t_LETTERS t_LONGEST_NAME a_ALWAYS a_NEVER a_OPPOSITES a_RESERVED a_SIGNS a_BadName a_BadNumber a_BadSign a_Condition a_ElseputError a_TooLarge) (kd : ∀ p ∈ oppL, KDct K w a_OPPOSITES p.1 (.str p.2)) (b : Binds K fd ["tree"] []) (kp : PySem.W.keepIn K (.ref f) = true) (m : mg "opposite" = some (.ref f)) :
    FnOk P w K mg base CX0 22 f fd ["tree"] (sp_opposite K) := opp_all F T kd b kp m 20
def sp_Condition___invert__ (K : PySem.W.Frag) : Sp := fun vs H Q _ => ∃ (a : Addr) (t : Tr), vs = [.ref a] ∧ CnAt K H a t ∧ Gd t ∧ ∀ (H' : Hp) (c : Addr), Same H H' → H c = none → CnAt K H' c (oppT t) → Q (.ref c) H'
theorem len_Condition___invert__ {vs : List V} {H : Hp} {Q : VK} {E : XK} (h : sp_Condition___invert__ K vs H Q E) : vs.length = 1 := by
  obtain ⟨_, _, rfl, _⟩ := h
  rfl
theorem ok_Condition___invert__ {f : Addr} {fd : FuncData} {f_opposite : Addr} {fd_opposite : FuncData} {f_Condition___init__ : Addr} {fd_Condition___init__ : FuncData} (F : Fun K "__invert__" "Condition.__invert__" s_Condition___invert__ f fd) (T : Gs K mg t_BOUND t_LETTERS t_LONGEST_NAME a_ALWAYS a_NEVER a_OPPOSITES a_RESERVED a_SIGNS a_BadName a_BadNumber a_BadSign a_Condition a_ElseputError a_TooLarge) (c_opposite : Cal P w K mg base CX0 22 "opposite" f_opposite fd_opposite ["tree"] (sp_opposite K)) (c_Condition___init__ : CalI P w K mg base CX0 23 "Condition" a_Condition f_Condition___init__ fd_Condition___init__ ["self", "tree"] (sp_Condition___init__ K)) : FnOk P w K mg base CX0 25 f fd ["self"] (sp_Condition___invert__ K) := by
  refine F.ok sc_Condition___invert__ (fun vs H Q E h => len_Condition___invert__ h) (fun cdv A outer s H vs Q E hr h => ?_)
  obtain ⟨a, t, rfl, hA, g, q⟩ := h
  obtain ⟨C, dx, u, v, ss, hC, ha, hv, _⟩ := id hA
  cases hC.symm.trans T.n_Condition
  have g1 := g.dp
  have g2 := (oppT_gd g).dp
  have g3 := (oppT_gd g).cs
  refine ⟨_, (pss_one (ps_ret (pe_make c_Condition___init__.mkc c_Condition___init__.G (hr.mono (by first | decide | omega)) rfl c_Condition___init__.m c_Condition___init__.b .nil pass0 (pa_cons (pe_call c_opposite.G (hr.mono (by first | decide | omega)) rfl c_opposite.m c_opposite.kp c_opposite.b .nil pass0 (pa_cons (e_f K (v_ 0)) pa_nil)) pa_nil)))), ?_⟩
  refine ⟨a, a_Condition, dx, _, _, rfl, ha, T.cl_Condition, T.na_Condition_tree, rfl, v, t, rfl, hv, by omega, by omega, g.ok, fun H1 x s1 hx => ?_⟩
  intro c dc nc ndc nec
  have sk := same_mk (C := a_Condition) nc ndc
  refine ⟨c, a_Condition, dc, x, oppT t, rfl, T.n_Condition, upd_same, hx.same sk, by omega, by omega, fun H3 bt hA => ⟨rfl, ?_⟩⟩
  have s3 : Same H1 H3 := fun c o hc => bt c o (ne_of_none hc nc) (sk _ _ hc)
  exact q H3 c (s1.trans s3) (Same.free s1 nc) hA
end
section
variable {P : Program} {w : World} {K : PySem.W.Frag} {mg : Str → Option Value} {base : Heap}
variable {t_BOUND t_LETTERS t_LONGEST_NAME : Tok} {a_ALWAYS a_NEVER a_OPPOSITES a_RESERVED a_SIGNS a_BadName a_BadNumber a_BadSign a_Condition a_ElseputError a_TooLarge : Addr}
/-! ### _law_same -/
def sp__law_is_int (K : PySem.W.Frag) : Sp := fun vs H Q _ => ∃ i : Int, vs = [.int i] ∧ Q (.bl true) H
theorem len__law_is_int {vs : List V} {H : Hp} {Q : VK} {E : XK} (h : sp__law_is_int K vs H Q E) : vs.length = 1 := by
  obtain ⟨_, rfl, _⟩ := h
  rfl
theorem ok__law_is_int {f : Addr} {fd : FuncData} (F : Fun K "_law_is_int" "_law_is_int" s__law_is_int f fd) (T : Gs K mg t_BOUND t_LETTERS t_LONGEST_NAME a_ALWAYS a_NEVER a_OPPOSITES a_RESERVED a_SIGNS a_BadName a_BadNumber a_BadSign a_Condition a_ElseputError a_TooLarge) : FnOk P w K mg base CX0 1 f fd ["_law_thing"] (sp__law_is_int K) := by
  refine F.ok sc__law_is_int (fun vs H Q E h => len__law_is_int h) (fun cdv A outer s H vs Q E hr h => ?_)
  obtain ⟨i, rfl, q⟩ := h
  refine ⟨_, (pss_one (ps_ret (pe_andM (pe_callB (isiK K) (by rfl) T.z_isinstance (by decide +kernel) (pa_cons (v_ 0) (pa_cons (pe_bltn (v := .ty "int") (u := .type "int") (by rfl) T.z_int (by decide +kernel) rfl) pa_nil))) (pe_one (pe_notM (pe_callB (isiK K) (by rfl) T.z_isinstance (by decide +kernel) (pa_cons (v_ 0) (pa_cons (pe_bltn (v := .ty "bool") (u := .type "bool") (by rfl) T.z_bool (by decide +kernel) rfl) pa_nil)))))))), ?_⟩
  refine ⟨_, _, _, _, true, rfl, .ty _, .base (.int i), kit_ty (by decide +kernel), ?_⟩
  exact ⟨_, _, _, _, false, rfl, .ty _, .base (.int i), kit_ty (by decide +kernel), q⟩
def SameV (K : PySem.W.Frag) (H : Hp) : Nat → V → V → Prop
  | 0, _, _ => False
  | n + 1, x, y => (∃ i : Int, x = .int i ∧ y = .int i) ∨ (∃ z : Str, x = .str z ∧ y = .str z) ∨ ∃ (p q : Addr) (xs ys : List V), x = .ref p ∧ y = .ref q ∧ SqT K H p xs ∧ SqT K H q ys ∧
      xs.length = ys.length ∧ ys.length ≤ 1000 ∧ ∀ (i : Nat) (a b : V), xs[i]? = some a → ys[i]? = some b → SameV K H n a b
def spSame (n : Nat) : PySem.W.Frag → Sp := fun K vs H Q _ => ∃ x y : V, vs = [x, y] ∧ SameV K H n x y ∧ Q (.bl true) H
theorem len_same {n : Nat} {vs : List V} {H : Hp} {Q : VK} {E : XK} (h : spSame n K vs H Q E) : vs.length = 2 := by
  obtain ⟨_, _, rfl, _⟩ := h
  rfl
theorem same_step {n k : Nat} {f : Addr} {fd : FuncData} {f__law_is_int : Addr} {fd__law_is_int : FuncData} (F : Fun K "_law_same" "_law_same" s__law_same f fd) (T : Gs K mg t_BOUND t_LETTERS t_LONGEST_NAME a_ALWAYS a_NEVER a_OPPOSITES a_RESERVED a_SIGNS a_BadName a_BadNumber a_BadSign a_Condition a_ElseputError a_TooLarge)
    (c__law_is_int : Cal P w K mg base CX0 1 "_law_is_int" f__law_is_int fd__law_is_int ["_law_thing"] (sp__law_is_int K)) (c__law_same : Cal P w K mg base CX0 k "_law_same" f fd ["_law_actual", "_law_due"] (spSame n K)) (hk : 1 ≤ k) : FnOk P w K mg base CX0 (k + 1) f fd ["_law_actual", "_law_due"] (spSame (n + 1) K) := by
  refine F.ok sc__law_same (fun vs H Q E h => len_same h) (fun cdv A outer s H vs Q E hr h => ?_)
  obtain ⟨x, y, rfl, h, q⟩ := h
  refine ⟨_, (pss_cons (ps_if (pt_c op_isM (v_ 1) pe_non) (pss_one (ps_ret (pe_c op_isM (v_ 0) pe_non))) pss_nil) (pss_cons (ps_if (pt_c op_isM (v_ 1) pe_bl) (pss_one (ps_ret (pe_c op_isM (v_ 0) pe_bl))) pss_nil) (pss_cons (ps_if (pt_c op_isM (v_ 1) pe_bl) (pss_one (ps_ret (pe_c op_isM (v_ 0) pe_bl))) pss_nil) (pss_cons (ps_if (pt_t K (pe_callB (isiK K) (by rfl) T.z_isinstance (by decide +kernel) (pa_cons (v_ 1) (pa_cons (pe_bltn (v := .ty "int") (u := .type "int") (by rfl) T.z_int (by decide +kernel) rfl) pa_nil)))) (pss_one (ps_ret (pe_andM (pe_call c__law_is_int.G (hr.mono (by first | decide | omega)) rfl c__law_is_int.m c__law_is_int.kp c__law_is_int.b .nil pass0 (pa_cons (v_ 0) pa_nil)) (pe_one (pe_c (eqK K hr.units) (v_ 0) (v_ 1)))))) pss_nil) (pss_cons (ps_if (pt_t K (pe_callB (isiK K) (by rfl) T.z_isinstance (by decide +kernel) (pa_cons (v_ 1) (pa_cons (pe_bltn (v := .ty "str") (u := .type "str") (by rfl) T.z_str (by decide +kernel) rfl) pa_nil)))) (pss_one (ps_ret (pe_andM (pe_callB (isiK K) (by rfl) T.z_isinstance (by decide +kernel) (pa_cons (v_ 0) (pa_cons (pe_bltn (v := .ty "str") (u := .type "str") (by rfl) T.z_str (by decide +kernel) rfl) pa_nil))) (pe_one (pe_c (eqK K hr.units) (v_ 0) (v_ 1)))))) pss_nil) (pss_cons (ps_if (pt_t K (pe_callB (isiK K) (by rfl) T.z_isinstance (by decide +kernel) (pa_cons (v_ 1) (pa_cons (pe_bltn (v := .ty "dict") (u := .type "dict") (by rfl) T.z_dict (by decide +kernel) rfl) pa_nil)))) (pss_cons (ps_if (PW.pt (pw_or (pt_not (pt_t K (pe_callB (isiK K) (by rfl) T.z_isinstance (by decide +kernel) (pa_cons (v_ 0) (pa_cons (pe_bltn (v := .ty "dict") (u := .type "dict") (by rfl) T.z_dict (by decide +kernel) rfl) pa_nil))))) (pw_or1 (pt_c (neK K hr.units) (pe_callB (lenK K) (by rfl) T.z_len PySem.boot_len (pa_cons (v_ 0) pa_nil)) (pe_callB (lenK K) (by rfl) T.z_len PySem.boot_len (pa_cons (v_ 1) pa_nil)))))) (pss_one (ps_ret pe_bl)) pss_nil) (pss_cons (ps_lock (ps_for PassesOwn.never rfl (pi_keys (v_ 1)) (pg_name (i := 3) sc__law_same.nd rfl (.inl rfl)) (pss_one (ps_if (PW.pt (pw_or (pt_cmp (pc_dnotin (hu_of hr) (v_ 3) (v_ 0))) (pw_or1 (pt_not (pt_t K (pe_call c__law_same.G (hr.mono (by first | decide | omega)) rfl c__law_same.m c__law_same.kp c__law_same.b .nil pass0 (pa_cons (pe_dget (hu_of hr) (v_ 0) (v_ 3) (fun _ _ => rfl)) (pa_cons (pe_dget (hu_of hr) (v_ 1) (v_ 3) (fun _ _ => rfl)) pa_nil)))))))) (pss_one (ps_ret pe_bl)) pss_nil)))) (pss_one (ps_ret pe_bl)))) pss_nil) (pss_cons (ps_if (PW.pt (pw_and (pt_t K (pe_callB (isiK K) (by rfl) T.z_isinstance (by decide +kernel) (pa_cons (v_ 1) (pa_cons (pe_bltn (v := .ty "list") (u := .type "list") (by rfl) T.z_list (by decide +kernel) rfl) pa_nil)))) (pw_and1 (pt_not (pt_t K (pe_callB (isiK K) (by rfl) T.z_isinstance (by decide +kernel) (pa_cons (v_ 0) (pa_cons (pe_bltn (v := .ty "list") (u := .type "list") (by rfl) T.z_list (by decide +kernel) rfl) pa_nil)))))))) (pss_one (ps_ret pe_bl)) pss_nil) (pss_cons (ps_if (PW.pt (pw_and (pt_t K (pe_callB (isiK K) (by rfl) T.z_isinstance (by decide +kernel) (pa_cons (v_ 1) (pa_cons (pe_bltn (v := .ty "tuple") (u := .type "tuple") (by rfl) T.z_tuple (by decide +kernel) rfl) pa_nil)))) (pw_and1 (pt_not (pt_t K (pe_callB (isiK K) (by rfl) T.z_isinstance (by decide +kernel) (pa_cons (v_ 0) (pa_cons (pe_bltn (v := .ty "tuple") (u := .type "tuple") (by rfl) T.z_tuple (by decide +kernel) rfl) pa_nil)))))))) (pss_one (ps_ret pe_bl)) pss_nil) (pss_cons (ps_if (pt_c (neK K hr.units) (pe_callB (lenK K) (by rfl) T.z_len PySem.boot_len (pa_cons (v_ 0) pa_nil)) (pe_callB (lenK K) (by rfl) T.z_len PySem.boot_len (pa_cons (v_ 1) pa_nil))) (pss_one (ps_ret pe_bl)) pss_nil) (pss_cons (ps_for PassesOwn.never rfl (pi_range1 rfl T.z_range (pa_cons (pe_callB (lenK K) (by rfl) T.z_len PySem.boot_len (pa_cons (v_ 1) pa_nil)) pa_nil)) (pg_name (i := 2) sc__law_same.nd rfl (.inl rfl)) (pss_one (ps_if (pt_not (pt_t K (pe_call c__law_same.G (hr.mono (by first | decide | omega)) rfl c__law_same.m c__law_same.kp c__law_same.b .nil pass0 (pa_cons (e_x K (v_ 0) (v_ 2)) (pa_cons (e_x K (v_ 1) (v_ 2)) pa_nil))))) (pss_one (ps_ret pe_bl)) pss_nil))) (pss_one (ps_ret pe_bl)))))))))))), ?_⟩
  rcases h with ⟨i, rfl, rfl⟩ | ⟨z, rfl, rfl⟩ | ⟨a, b, xs, ys, rfl, rfl, ha, hb, hl, h1, hs⟩
  · refine ⟨_, _, _, _, true, rfl, .ty _, .base (.int i), kit_ty (by decide +kernel), ?_⟩
    refine ⟨i, rfl, ?_⟩
    have e : decide (i = i) = true := decide_eq_true rfl
    rw [← e] at q
    exact q
  · refine ⟨_, _, _, _, false, rfl, .ty _, .base (.str z), kit_ty (by decide +kernel), ?_⟩
    refine ⟨_, _, _, _, true, rfl, .ty _, .base (.str z), kit_ty (by decide +kernel), ?_⟩
    refine ⟨_, _, _, _, true, rfl, .ty _, .base (.str z), kit_ty (by decide +kernel), ?_⟩
    have e : decide (z = z) = true := decide_eq_true rfl
    rw [← e] at q
    exact q
  · have tb := ty_tup hb
    refine ⟨_, _, _, _, false, rfl, .ty _, tb, kit_ty (by decide +kernel), ?_⟩
    refine ⟨_, _, _, _, false, rfl, .ty _, tb, kit_ty (by decide +kernel), ?_⟩
    refine ⟨_, _, _, _, false, rfl, .ty _, tb, kit_ty (by decide +kernel), ?_⟩
    refine ⟨_, _, _, _, false, rfl, .ty _, tb, kit_ty (by decide +kernel), ?_⟩
    refine ⟨_, _, _, _, true, rfl, .ty _, tb, kit_ty (by decide +kernel), ?_⟩
    refine ⟨_, _, _, _, true, rfl, .ty _, ty_tup ha, kit_ty (by decide +kernel), ?_⟩
    refine .inl ⟨_, .inr ha, .inl ⟨_, .inr hb, ?_⟩⟩
    refine ite2 (fun e => ?_) (fun _ => ?_)
    · exact absurd e (by rw [hl]; simp)
    refine .inl ⟨_, .inr hb, _, rfl, by omega, by omega, ?_⟩
    refine for_range (lo := 0) (n := ys.length) (fun i σ' H' => H' = H ∧ ∃ y, σ' = [some (.ref a), some (.ref b), y, none]) ⟨rfl, _, rfl⟩ ?_ ?_
    · rintro i σ' H' hi ⟨rfl, y, rfl⟩
      have ex := List.getElem?_eq_getElem (l := xs) (i := i) (by omega)
      have ey := List.getElem?_eq_getElem (l := ys) hi
      refine ⟨_, .inr ha, xs[i], ?_, _, .inr hb, ys[i], ?_, _, _, rfl, hs i _ _ ex ey, ?_⟩
      · rw [show (0 : Int) + i = ((i : Nat) : Int) by omega]
        exact atI_nat ex
      · rw [show (0 : Int) + i = ((i : Nat) : Int) by omega]
        exact atI_nat ey
      exact ⟨rfl, _, rfl⟩
    · rintro σ' H' ⟨rfl, y, rfl⟩
      exact q
theorem same_all {f : Addr} {fd : FuncData} {f__law_is_int : Addr} {fd__law_is_int : FuncData} (F : Fun K "_law_same" "_law_same" s__law_same f fd) (T : Gs K mg t_BOUND t_LETTERS t_LONGEST_NAME a_ALWAYS a_NEVER a_OPPOSITES a_RESERVED a_SIGNS a_BadName a_BadNumber a_BadSign a_Condition a_ElseputError a_TooLarge)
    (c__law_is_int : Cal P w K mg base CX0 1 "_law_is_int" f__law_is_int fd__law_is_int ["_law_thing"] (sp__law_is_int K)) (b : Binds K fd ["_law_actual", "_law_due"] []) (kp : PySem.W.keepIn K (.ref f) = true) (m : mg "_law_same" = some (.ref f)) :
    ∀ n : Nat, FnOk P w K mg base CX0 (n + 2) f fd ["_law_actual", "_law_due"] (spSame n K)
  | 0 => ⟨fun _ _ _ _ h => len_same h, by
    intro A outer s H args us vs Q E _ _ _ _ h
    obtain ⟨_, _, _, h, _⟩ := h
    exact False.elim h⟩
  | n + 1 => same_step F T c__law_is_int ⟨same_all F T c__law_is_int b kp m n, b, kp, m⟩ (by omega)
def sp__law_same : PySem.W.Frag → Sp := spSame 24
theorem ok__law_same {f : Addr} {fd : FuncData} {f__law_is_int : Addr} {fd__law_is_int : FuncData} (F : Fun K "_law_same" "_law_same" s__law_same f fd) (T : Gs K mg t_BOUND t_LETTERS t_LONGEST_NAME a_ALWAYS a_NEVER a_OPPOSITES a_RESERVED a_SIGNS a_BadName a_BadNumber a_BadSign a_Condition a_ElseputError a_TooLarge)
    (c__law_is_int : Cal P w K mg base CX0 1 "_law_is_int" f__law_is_int fd__law_is_int ["_law_thing"] (sp__law_is_int K)) (b : Binds K fd ["_law_actual", "_law_due"] []) (kp : PySem.W.keepIn K (.ref f) = true) (m : mg "_law_same" = some (.ref f)) :
    FnOk P w K mg base CX0 26 f fd ["_law_actual", "_law_due"] (sp__law_same K) := same_all F T c__law_is_int b kp m 24
theorem same_int {H : Hp} {n : Nat} (i : Int) : SameV K H (n + 1) (.int i) (.int i) := .inl ⟨i, rfl, rfl⟩
theorem same_str {H : Hp} {n : Nat} (z : Str) : SameV K H (n + 1) (.str z) (.str z) := .inr (.inl ⟨z, rfl, rfl⟩)
theorem same_tupN {H : Hp} {t u : Addr} {xs ys : List V} {n : Nat} (h1 : SqT K H t xs) (h2 : SqT K H u ys) (hl : xs.length = ys.length) (h4 : ys.length ≤ 1000) (h : ∀ (i : Nat) (a b : V), xs[i]? = some a → ys[i]? = some b → SameV K H n a b) : SameV K H (n + 1) (.ref t) (.ref u) :=
  .inr (.inr ⟨t, u, _, _, rfl, rfl, h1, h2, hl, h4, h⟩)
theorem same_two {H : Hp} {t u : Addr} {w : Str} {x y : V} {m : Nat} (h1 : SqT K H t [.str w, x]) (h2 : SqT K H u [.str w, y]) (h : SameV K H (m + 1) x y) : SameV K H (m + 2) (.ref t) (.ref u) := by
  refine same_tupN h1 h2 rfl (by show 2 ≤ 1000; decide) fun i a b ha hb => ?_
  match i, ha, hb with
  | 0, ha, hb => cases ha; cases hb; exact same_str _
  | 1, ha, hb => cases ha; cases hb; exact h
theorem same_strs {H : Hp} {t u : Addr} {zs : List Str} {n : Nat} (h1 : SqT K H t (zs.map V.str)) (h2 : SqT K H u (zs.map V.str)) (hl : zs.length ≤ 1000) : SameV K H (n + 2) (.ref t) (.ref u) := by
  refine same_tupN h1 h2 rfl (by rw [List.length_map]; exact hl) fun i a b ha hb => ?_
  rw [ha] at hb
  cases hb
  rw [List.getElem?_map] at ha
  obtain ⟨z, hz, rfl⟩ := Option.map_eq_some_iff.mp ha
  exact same_str z
theorem same_tree {H : Hp} (t : Tr) : ∀ {x y : V} {m : Nat}, TAt K H t x → TAt K H t y → SameV K H (t.depth + m + 2) x y := by
  induction t with
  | tt =>
    intro x y m h1 h2
    obtain ⟨a, rfl, h1⟩ := h1
    obtain ⟨b, rfl, h2⟩ := h2
    refine same_tupN h1 h2 rfl (by show 1 ≤ 1000; decide) fun i a b ha hb => ?_
    match i, ha, hb with
    | 0, ha, hb => cases ha; cases hb; exact same_str _
  | ff =>
    intro x y m h1 h2
    obtain ⟨a, rfl, h1⟩ := h1
    obtain ⟨b, rfl, h2⟩ := h2
    refine same_tupN h1 h2 rfl (by show 1 ≤ 1000; decide) fun i a b ha hb => ?_
    match i, ha, hb with
    | 0, ha, hb => cases ha; cases hb; exact same_str _
  | cmp f s n =>
    intro x y m h1 h2
    obtain ⟨a, rfl, h1⟩ := h1
    obtain ⟨b, rfl, h2⟩ := h2
    refine same_tupN h1 h2 rfl (by show 4 ≤ 1000; decide) fun i a b ha hb => ?_
    match i, ha, hb with
    | 0, ha, hb => cases ha; cases hb; exact same_str _
    | 1, ha, hb => cases ha; cases hb; exact same_str _
    | 2, ha, hb => cases ha; cases hb; exact same_str _
    | 3, ha, hb => cases ha; cases hb; exact same_int _
  | con w l r il ir =>
    intro x y m h1 h2
    obtain ⟨a, x1, y1, rfl, h1, hx, hy⟩ := h1
    obtain ⟨b, x2, y2, rfl, h2, hx', hy'⟩ := h2
    have e : (Tr.con w l r).depth + m + 2 = (max l.depth r.depth + m + 2) + 1 := by
      show max l.depth r.depth + 1 + m + 2 = _
      omega
    rw [e]
    refine same_tupN h1 h2 rfl (by show 3 ≤ 1000; decide) fun i a b ha hb => ?_
    match i, ha, hb with
    | 0, ha, hb => cases ha; cases hb; exact same_str _
    | 1, ha, hb =>
      cases ha; cases hb
      have := il (m := max l.depth r.depth - l.depth + m) hx hx'
      rwa [show l.depth + (max l.depth r.depth - l.depth + m) + 2 = max l.depth r.depth + m + 2 by omega] at this
    | 2, ha, hb =>
      cases ha; cases hb
      have := ir (m := max l.depth r.depth - r.depth + m) hy hy'
      rwa [show r.depth + (max l.depth r.depth - r.depth + m) + 2 = max l.depth r.depth + m + 2 by omega] at this
end
section
variable {P : Program} {w : World} {K : PySem.W.Frag} {mg : Str → Option Value} {base : Heap}
variable {t_BOUND t_LETTERS t_LONGEST_NAME : Tok} {a_ALWAYS a_NEVER a_OPPOSITES a_RESERVED a_SIGNS a_BadName a_BadNumber a_BadSign a_Condition a_ElseputError a_TooLarge : Addr}
/-! ### sorting -/
theorem cutV_take (xs : List V) {k : Int} (h : 0 ≤ k) : cutV xs none (some k) = xs.take k.toNat := by
  unfold cutV
  have e := HT.sIx_nat xs.length xs.length k.toNat
  rw [show ((k.toNat : Nat) : Int) = k by omega] at e
  rw [e, HT.sIx_none, List.drop_zero]
  by_cases hk : k.toNat ≤ xs.length
  · rw [Nat.min_eq_left hk, Nat.sub_zero]
  · rw [Nat.min_eq_right (by omega), Nat.sub_zero, List.take_length, List.take_of_length_le (by omega)]
theorem cutV_drop (xs : List V) {k : Int} (h : 0 ≤ k) : cutV xs (some k) none = xs.drop k.toNat := by
  unfold cutV
  have e := HT.sIx_nat xs.length 0 k.toNat
  rw [show ((k.toNat : Nat) : Int) = k by omega] at e
  rw [e, HT.sIx_none]
  by_cases hk : k.toNat ≤ xs.length
  · rw [Nat.min_eq_left hk, List.take_of_length_le (by rw [List.length_drop]; omega)]
  · rw [Nat.min_eq_right (by omega), List.drop_of_length_le (Nat.le_refl _), List.drop_of_length_le (by omega)]
    exact List.take_nil
theorem ltc_irr : ∀ a : List Nat, PySem.Spec.ltCps a a = false
  | [] => rfl
  | a :: r => by simp [PySem.Spec.ltCps, ltc_irr r]
theorem ltc_trans : ∀ {a b c : List Nat}, PySem.Spec.ltCps a b = true → PySem.Spec.ltCps b c = true → PySem.Spec.ltCps a c = true
  | [], _, [], _, h => by cases ‹List Nat› <;> simp [PySem.Spec.ltCps] at h
  | [], _, _ :: _, _, _ => rfl
  | _ :: _, [], _, h, _ => by simp [PySem.Spec.ltCps] at h
  | a :: r, b :: t, [], _, h => by simp [PySem.Spec.ltCps] at h
  | a :: r, b :: t, c :: u, h1, h2 => by
    have ih := ltc_trans (a := r) (b := t) (c := u)
    simp only [PySem.Spec.ltCps, Bool.or_eq_true, Bool.and_eq_true, decide_eq_true_eq, beq_iff_eq] at h1 h2 ⊢
    rcases h1 with h1 | ⟨rfl, h1⟩ <;> rcases h2 with h2 | ⟨rfl, h2⟩
    · left; omega
    · left; exact h1
    · left; exact h2
    · right; exact ⟨rfl, ih h1 h2⟩
theorem ltc_tri : ∀ {a b : List Nat}, PySem.Spec.ltCps a b = false → PySem.Spec.ltCps b a = false → a = b
  | [], [], _, _ => rfl
  | [], _ :: _, h, _ => by simp [PySem.Spec.ltCps] at h
  | _ :: _, [], _, h => by simp [PySem.Spec.ltCps] at h
  | a :: r, b :: t, h1, h2 => by
    have ih := ltc_tri (a := r) (b := t)
    simp only [PySem.Spec.ltCps, Bool.or_eq_false_iff, decide_eq_false_iff_not, Bool.and_eq_false_imp, beq_iff_eq] at h1 h2
    have e : a = b := by omega
    subst e
    rw [ih (h1.2 rfl) (h2.2 rfl)]
/-- the order of texts -/
def lS (a b : Str) : Bool := PySem.Spec.ltCps a.cps.toList b.cps.toList
theorem lS_irr (a : Str) : lS a a = false := ltc_irr _
theorem lS_trans {a b c : Str} (h1 : lS a b = true) (h2 : lS b c = true) : lS a c = true := ltc_trans h1 h2
theorem lS_tri {a b : Str} (h1 : lS a b = false) (h2 : lS b a = false) : a = b := by
  have := ltc_tri h1 h2
  have := Array.toList_inj.mp this
  cases a
  cases b
  exact congrArg Str.mk this
theorem lS_of {a b : Str} (h : lS b a = false) (hn : a ≠ b) : lS a b = true := by
  cases e : lS a b with
  | true => rfl
  | false => exact absurd (lS_tri e h) hn
abbrev PwS (l : List Str) : Prop := l.Pairwise fun a b => lS a b = true
theorem pw_of_rising : ∀ (l : List Str) (p : Str), risingS p l = true → (p :: l).Nodup → PwS (p :: l)
  | [], p, _, _ => List.pairwise_singleton _ _
  | x :: r, p, h, hd => by
    have h : (!lS x p && risingS x r) = true := h
    rw [Bool.and_eq_true, Bool.not_eq_true'] at h
    obtain ⟨hd1, hd2⟩ := List.nodup_cons.mp hd
    have ih := pw_of_rising r x h.2 hd2
    have px : lS p x = true := lS_of h.1 (fun e => hd1 (e ▸ List.mem_cons_self))
    refine List.pairwise_cons.mpr ⟨fun y hy => ?_, ih⟩
    rcases List.mem_cons.mp hy with rfl | hy
    · exact px
    · exact lS_trans px ((List.pairwise_cons.mp ih).1 y hy)
theorem pw_of_sorted {l : List Str} (h : sortedS l = true) (hd : l.Nodup) : PwS l := by
  cases l with
  | nil => exact List.Pairwise.nil
  | cons p r => exact pw_of_rising r p h hd
theorem pw_uniq : ∀ {a b : List Str}, PwS a → PwS b → (∀ k, k ∈ a ↔ k ∈ b) → a = b
  | [], [], _, _, _ => rfl
  | [], y :: t, _, _, h => absurd ((h y).mpr List.mem_cons_self) (by simp)
  | x :: r, [], _, _, h => absurd ((h x).mp List.mem_cons_self) (by simp)
  | x :: r, y :: t, ha, hb, h => by
    obtain ⟨a1, a2⟩ := List.pairwise_cons.mp ha
    obtain ⟨b1, b2⟩ := List.pairwise_cons.mp hb
    have e : x = y := by
      rcases List.mem_cons.mp ((h x).mp List.mem_cons_self) with e | hx
      · exact e
      · rcases List.mem_cons.mp ((h y).mpr List.mem_cons_self) with e | hy
        · exact e.symm
        · have := lS_trans (a1 y hy) (b1 x hx)
          rw [lS_irr] at this
          cases this
    subst e
    have nx : ∀ {l : List Str}, (∀ z ∈ l, lS x z = true) → x ∉ l := fun hl hx => by
      have := hl x hx
      rw [lS_irr] at this
      cases this
    rw [pw_uniq a2 b2 fun k => ⟨fun hk => by
      rcases List.mem_cons.mp ((h k).mp (List.mem_cons_of_mem _ hk)) with rfl | q
      · exact absurd hk (nx a1)
      · exact q, fun hk => by
      rcases List.mem_cons.mp ((h k).mpr (List.mem_cons_of_mem _ hk)) with rfl | q
      · exact absurd hk (nx b1)
      · exact q⟩]
def sp__law_sorted (K : PySem.W.Frag) : Sp := fun vs H Q _ => ∃ (p : Addr) (zs : List Str), vs = [.ref p] ∧ H p = some (.lst (zs.map V.str)) ∧ zs.Nodup ∧ zs.length ≤ 1000 ∧
  ∀ (H' : Hp) (r : Addr) (ss : List Str), Same H H' → H r = none → H' r = some (.lst (ss.map V.str)) → PwS ss → (∀ k, k ∈ ss ↔ k ∈ zs) → ss.length = zs.length → Q (.ref r) H'
theorem len__law_sorted {vs : List V} {H : Hp} {Q : VK} {E : XK} (h : sp__law_sorted K vs H Q E) : vs.length = 1 := by
  obtain ⟨_, _, rfl, _⟩ := h
  rfl
theorem pw_ins {l : List Str} {x : Str} {k : Nat} (h : PwS l) (hx : x ∉ l) (h1 : ∀ j z, j < k → l[j]? = some z → lS x z = false) (h2 : ∀ z, l[k]? = some z → lS x z = true) : PwS (l.take k ++ [x] ++ l.drop k) := by
  have t1 : ∀ a ∈ l.take k, lS a x = true := fun a ha => by
    obtain ⟨j, hj, e⟩ := List.getElem_of_mem ha
    rw [List.length_take] at hj
    have ej : l[j]? = some a := by
      rw [← e, List.getElem_take]
      exact List.getElem?_eq_getElem (by omega)
    refine lS_of (h1 j a (by omega) ej) fun q => hx (q ▸ List.mem_of_getElem? ej)
  have t2 : ∀ b ∈ l.drop k, lS x b = true := fun b hb => by
    by_cases hk : k < l.length
    · have hd := List.drop_eq_getElem_cons hk
      have hp : PwS (l.drop k) := h.sublist (List.drop_sublist _ _)
      have e0 := h2 l[k] (List.getElem?_eq_getElem hk)
      rw [hd] at hb hp
      rcases List.mem_cons.mp hb with rfl | q
      · exact e0
      · exact lS_trans e0 ((List.pairwise_cons.mp hp).1 b q)
    · rw [List.drop_of_length_le (by omega)] at hb
      cases hb
  rw [List.append_assoc]
  refine List.pairwise_append.mpr ⟨h.sublist (List.take_sublist _ _), List.pairwise_cons.mpr ⟨t2, h.sublist (List.drop_sublist _ _)⟩, fun a ha b hb => ?_⟩
  rcases List.mem_cons.mp hb with rfl | q
  · exact t1 a ha
  · exact lS_trans (t1 a ha) (t2 b q)
theorem ok__law_sorted {f : Addr} {fd : FuncData} (F : Fun K "_law_sorted" "_law_sorted" s__law_sorted f fd) (T : Gs K mg t_BOUND t_LETTERS t_LONGEST_NAME a_ALWAYS a_NEVER a_OPPOSITES a_RESERVED a_SIGNS a_BadName a_BadNumber a_BadSign a_Condition a_ElseputError a_TooLarge) : FnOk P w K mg base CX0 1 f fd ["_law_row"] (sp__law_sorted K) := by
  refine F.ok sc__law_sorted (fun vs H Q E h => len__law_sorted h) (fun cdv A outer s H vs Q E hr h => ?_)
  obtain ⟨p, zs, rfl, hp, hz, hl, q⟩ := h
  refine ⟨_, (pss_cons (ps_set (i := 1) sc__law_sorted.nd rfl (.inl rfl) (pe_lst pa_nil)) (pss_cons (ps_for PassesOwn.never rfl (pi_list (v_ 0)) (pg_name (i := 2) sc__law_sorted.nd rfl (.inl rfl)) (pss_cons (ps_set (i := 3) sc__law_sorted.nd rfl (.inl rfl) (pe_callB (lenK K) (by rfl) T.z_len PySem.boot_len (pa_cons (v_ 1) pa_nil))) (pss_cons (ps_for PassesOwn.never rfl (pi_range1 rfl T.z_range (pa_cons (pe_callB (lenK K) (by rfl) T.z_len PySem.boot_len (pa_cons (v_ 1) pa_nil)) pa_nil)) (pg_name (i := 4) sc__law_sorted.nd rfl (.inl rfl)) (pss_one (ps_if (PW.pt (pw_and (pt_c (eqK K hr.units) (v_ 3) (pe_callB (lenK K) (by rfl) T.z_len PySem.boot_len (pa_cons (v_ 1) pa_nil))) (pw_and1 (pt_c op_lt_str (v_ 2) (e_x K (v_ 1) (v_ 4)))))) (pss_one (ps_set (i := 3) sc__law_sorted.nd rfl (.inl rfl) (v_ 4))) pss_nil))) (pss_one (ps_set (i := 1) sc__law_sorted.nd rfl (.inl rfl) (pe_op (addK K) (pe_op (addK K) (pe_slice (slK K) (v_ 1) po_none (po_some (v_ 3))) (pe_lst (pa_cons (v_ 2) pa_nil))) (pe_slice (slK K) (v_ 1) (po_some (v_ 3)) po_none))))))) (pss_one (ps_ret (v_ 1))))), ?_⟩
  refine ⟨Nat.zero_le _, fun R nR => ?_⟩
  have pR : p ≠ R := ne_of_none hp nR
  refine ⟨p, rfl, ⟨_, SqL.of (same_new nR _ _ hp)⟩, ?_⟩
  refine for_list (K := K) (a := p) (xs := zs.map V.str) (fun i σ' H' => ∃ (R : Addr) (ss : List Str) (x y z : Option V), σ' = [some (.ref p), some (.ref R), x, y, z] ∧ Same H H' ∧ H R = none ∧ H' R = some (.lst (ss.map V.str)) ∧ PwS ss ∧ (∀ k, k ∈ ss ↔ k ∈ zs.take i) ∧ ss.length = i) ⟨R, [], _, _, _, rfl, same_new nR, nR, upd_same, List.Pairwise.nil, fun k => Iff.rfl, rfl⟩ (fun i σ' H' _ ⟨_, _, _, _, _, _, h, _⟩ => SqL.of (h _ _ hp)) ?_ ?_
  · rintro i v σ' H1 hi ⟨R, ss, x, y, z, rfl, s1, nR, hR, pw, mm, sl⟩
    rw [List.getElem?_map] at hi
    obtain ⟨it, ei, rfl⟩ := Option.map_eq_some_iff.mp hi
    have il := (List.getElem?_eq_some_iff.mp ei).1
    have nit : it ∉ ss := fun hm => by
      have hm := (mm it).mp hm
      obtain ⟨j, hj, e⟩ := List.getElem_of_mem hm
      rw [List.length_take] at hj
      have ej : zs[j]? = some it := by
        rw [← e, List.getElem_take]
        exact List.getElem?_eq_getElem (by omega)
      have := (List.getElem?_inj (by omega) hz).mp (ej.trans ei.symm)
      omega
    refine .inl ⟨_, .inl (SqL.of hR), ?_⟩
    rw [List.length_map]
    refine .inl ⟨_, .inl (SqL.of hR), ss.length, by rw [List.length_map], by omega, by omega, ?_⟩
    refine for_range (lo := 0) (n := ss.length) (fun j σ' H' => H' = H1 ∧ ∃ (k : Nat) (w : Option V), σ' = [some (.ref p), some (.ref R), some (.str it), some (.int k), w] ∧ (∀ m z, m < k → m < j → ss[m]? = some z → lS it z = false) ∧ (k = ss.length ∨ (k < j ∧ ∀ z, ss[k]? = some z → lS it z = true))) ⟨rfl, ss.length, _, rfl, fun m z _ h => absurd h (Nat.not_lt_zero _), .inl rfl⟩ ?_ ?_
    · rintro j σ' H2 hj ⟨rfl, k, w, rfl, h1, h2⟩
      refine .inl ⟨_, .inl (SqL.of hR), ?_⟩
      rw [List.length_map]
      refine ite2 (fun e => ?_) (fun e => ?_)
      · have e : (k : Int) = (ss.length : Int) := of_decide_eq_true e
        have ek : k = ss.length := by omega
        obtain ⟨zj, ezj⟩ : ∃ zj, ss[j]? = some zj := ⟨_, List.getElem?_eq_getElem hj⟩
        have ea : atI (ss.map V.str) (0 + (j : Int)) = some (.str zj) := by
          rw [show (0 : Int) + j = ((j : Nat) : Int) by omega]
          exact atI_nat (by rw [List.getElem?_map, ezj]; rfl)
        refine ⟨_, .inl (SqL.of hR), .str zj, ea, it, zj, rfl, rfl, ?_⟩
        rw [PyProof.Rows.lt_meets]
        refine ite2 (fun e2 => ?_) (fun e2 => ?_)
        · refine ⟨rfl, j, _, by rw [show (0 : Int) + j = ((j : Nat) : Int) by omega]; rfl, fun m z hm _ hz => h1 m z (by omega) hm hz, .inr ⟨by omega, fun z hz => ?_⟩⟩
          rw [ezj] at hz
          cases hz
          exact e2
        · refine ⟨rfl, k, _, rfl, fun m z hm hmj hz => ?_, .inl ek⟩
          by_cases hmj2 : m < j
          · exact h1 m z hm hmj2 hz
          · have : m = j := by omega
            subst this
            rw [ezj] at hz
            cases hz
            exact Bool.eq_false_iff.mpr e2
      · have e : ¬ (k : Int) = (ss.length : Int) := of_decide_eq_false (Bool.eq_false_iff.mpr e)
        rcases h2 with h2 | ⟨h2, h3⟩
        · exact absurd (by omega) e
        · exact ⟨rfl, k, _, rfl, fun m z hm hmj hz => h1 m z hm (by omega) hz, .inr ⟨by omega, h3⟩⟩
    rintro σ' H2 ⟨rfl, k, w, rfl, h1, h2⟩
    have kl : k ≤ ss.length := by
      rcases h2 with h | ⟨h, _⟩ <;> omega
    have pw2 : PwS (ss.take k ++ [it] ++ ss.drop k) := pw_ins pw nit (fun j z hj hz => h1 j z hj (List.getElem?_eq_some_iff.mp hz).1 hz) (fun z hz => by
      rcases h2 with h | ⟨_, h⟩
      · have := (List.getElem?_eq_some_iff.mp hz).1
        omega
      · exact h z hz)
    have e1 : cutV (ss.map V.str) none (some (k : Int)) = (ss.take k).map V.str := by rw [cutV_take _ (by omega), List.map_take, Int.toNat_natCast]
    have e2 : cutV (ss.map V.str) (some (k : Int)) none = (ss.drop k).map V.str := by rw [cutV_drop _ (by omega), List.map_drop, Int.toNat_natCast]
    refine ⟨k, rfl, .inl ⟨_, SqL.of hR, fun p1 n1 => ?_⟩⟩
    rw [e1]
    have q1 := same_new (o := .lst ((ss.take k).map V.str)) n1
    refine ⟨(by show 1 ≤ sizeLine; decide), fun p2 n2 => ?_⟩
    have q2 := same_new (o := .lst [.str it]) n2
    refine .inl ⟨_, _, q2 _ _ upd_same, upd_same, line_of (by rw [List.length_map, List.length_take, List.length_singleton]; omega), fun p3 n3 => ?_⟩
    have q3 := same_new (o := .lst ((ss.take k).map V.str ++ [.str it])) n3
    have q13 := (q1.trans q2).trans q3
    refine ⟨k, rfl, .inl ⟨_, SqL.of (q13 _ _ hR), fun p4 n4 => ?_⟩⟩
    rw [e2]
    have q4 := same_new (o := .lst ((ss.drop k).map V.str)) n4
    refine .inl ⟨_, _, q4 _ _ upd_same, upd_same, line_of (by rw [List.length_append, List.length_map, List.length_map, List.length_take, List.length_drop, List.length_singleton]; omega), fun p5 n5 => ?_⟩
    have q5 := same_new (o := .lst ((ss.take k).map V.str ++ [.str it] ++ (ss.drop k).map V.str)) n5
    have q15 := (q13.trans q4).trans q5
    have n5' := Same.free (s1.trans (q13.trans q4)) n5
    refine ⟨p5, ss.take k ++ [it] ++ ss.drop k, _, _, _, rfl, s1.trans q15, n5', ?_, pw2, fun y => ?_, ?_⟩
    · rw [upd_same, List.map_append, List.map_append]
      rfl
    · have : y ∈ ss ↔ y ∈ ss.take k ∨ y ∈ ss.drop k := by rw [← List.mem_append, List.take_append_drop]
      rw [take_snoc ei]
      simp only [List.mem_append, List.mem_singleton]
      rw [← mm y, this]
      constructor
      · rintro ((h | h) | h)
        · exact .inl (.inl h)
        · exact .inr h
        · exact .inl (.inr h)
      · rintro ((h | h) | h)
        · exact .inl (.inl h)
        · exact .inr h
        · exact .inl (.inr h)
    · rw [List.length_append, List.length_append, List.length_take, List.length_drop, List.length_singleton]
      omega
  · rintro σ' H1 ⟨R, ss, x, y, z, rfl, s1, nR, hR, pw, mm, sl⟩
    rw [List.length_map] at sl mm
    rw [List.take_length] at mm
    exact q H1 R ss s1 nR hR pw mm sl
end
section
variable {P : Program} {w : World} {K : PySem.W.Frag} {mg : Str → Option Value} {base : Heap}
variable {t_BOUND t_LETTERS t_LONGEST_NAME : Tok} {a_ALWAYS a_NEVER a_OPPOSITES a_RESERVED a_SIGNS a_BadName a_BadNumber a_BadSign a_Condition a_ElseputError a_TooLarge : Addr}
/-! ### what is compared, by the law -/
def PsAt (H : Hp) (xs : List V) (cs : List (Str × Str × Int)) : Prop := xs.length = cs.length ∧ ∀ (i : Nat) (c : Str × Str × Int), cs[i]? = some c → ∃ a : Addr, xs[i]? = some (V.ref a) ∧ H a = some (.tup [.str c.1, .int c.2.2])
theorem PsAt.same {H H' : Hp} {xs : List V} {cs : List (Str × Str × Int)} (h : PsAt H xs cs) (s : Same H H') : PsAt H' xs cs := ⟨h.1, fun i c hc => by
  obtain ⟨a, e, q⟩ := h.2 i c hc
  exact ⟨a, e, s _ _ q⟩⟩
theorem PsAt.app {H : Hp} {xs ys : List V} {cs ds : List (Str × Str × Int)} (h : PsAt H xs cs) (k : PsAt H ys ds) : PsAt H (xs ++ ys) (cs ++ ds) := ⟨by rw [List.length_append, List.length_append, h.1, k.1], fun i c hc => by
  by_cases e : i < cs.length
  · rw [List.getElem?_append_left e] at hc
    rw [List.getElem?_append_left (by rw [h.1]; exact e)]
    exact h.2 i c hc
  · rw [List.getElem?_append_right (by omega)] at hc
    rw [List.getElem?_append_right (by rw [h.1]; omega), h.1]
    exact k.2 _ c hc⟩
def spCpd (n : Nat) : PySem.W.Frag → Sp := fun K vs H Q _ => ∃ (v : V) (t : Tr), vs = [v] ∧ TAt K H t v ∧ t.depth < n ∧ t.cs.length ≤ 1000 ∧
  ∀ (H' : Hp) (D : Addr) (xs : List V), Same H H' → H D = none → H' D = some (.lst xs) → PsAt H' xs t.cs → Q (.ref D) H'
theorem len_cpd {n : Nat} {vs : List V} {H : Hp} {Q : VK} {E : XK} (h : spCpd n K vs H Q E) : vs.length = 1 := by
  obtain ⟨_, _, rfl, _⟩ := h
  rfl
theorem cpd_step {n k : Nat} {f : Addr} {fd : FuncData} (F : Fun K "_law_compared" "_law_compared" s__law_compared f fd) (T : Gs K mg t_BOUND t_LETTERS t_LONGEST_NAME a_ALWAYS a_NEVER a_OPPOSITES a_RESERVED a_SIGNS a_BadName a_BadNumber a_BadSign a_Condition a_ElseputError a_TooLarge)
    (c__law_compared : Cal P w K mg base CX0 k "_law_compared" f fd ["_law_tree"] (spCpd n K)) (hk : 1 ≤ k) : FnOk P w K mg base CX0 (k + 1) f fd ["_law_tree"] (spCpd (n + 1) K) := by
  refine F.ok sc__law_compared (fun vs H Q E h => len_cpd h) (fun cdv A outer s H vs Q E hr h => ?_)
  obtain ⟨v, t, rfl, ht, hd, hl, q⟩ := h
  refine ⟨_, (pss_cons (ps_if (pt_c (eqK K hr.units) (e_x K (v_ 0) pe_int) pe_str) (pss_one (ps_ret (pe_lst (pa_cons (pe_tup (pa_cons (e_x K (v_ 0) pe_int) (pa_cons (e_x K (v_ 0) pe_int) pa_nil))) pa_nil)))) pss_nil) (pss_cons (ps_if (PW.pt (pw_or (pt_c (eqK K hr.units) (e_x K (v_ 0) pe_int) pe_str) (pw_or1 (pt_c (eqK K hr.units) (e_x K (v_ 0) pe_int) pe_str)))) (pss_one (ps_ret (pe_op (addK K) (pe_call c__law_compared.G (hr.mono (by first | decide | omega)) rfl c__law_compared.m c__law_compared.kp c__law_compared.b .nil pass0 (pa_cons (e_x K (v_ 0) pe_int) pa_nil)) (pe_call c__law_compared.G (hr.mono (by first | decide | omega)) rfl c__law_compared.m c__law_compared.kp c__law_compared.b .nil pass0 (pa_cons (e_x K (v_ 0) pe_int) pa_nil))))) pss_nil) (pss_one (ps_ret (pe_lst pa_nil))))), ?_⟩
  cases t with
  | cmp g s m =>
    obtain ⟨a, rfl, ha⟩ := ht
    have i3 : atI [V.str "compare", .str g, .str s, .int m] (3 : Int) = some (.int m) := rfl
    refine ⟨_, .inr ha, .str "compare", rfl, ?_⟩
    refine ⟨_, .inr ha, .str g, rfl, _, .inr ha, .int m, i3, (by show 2 ≤ sizeLine; decide), fun u nu => ?_⟩
    refine ⟨(by show 1 ≤ sizeLine; decide), fun D nD => ?_⟩
    have su := same_new (o := .tup [.str g, .int m]) nu
    have sD := same_new (o := .lst [.ref u]) nD
    refine q _ D [.ref u] (su.trans sD) (free_new nD) upd_same ⟨rfl, fun i c hc => ?_⟩
    match i, hc with
    | 0, hc => cases hc; exact ⟨u, rfl, sD _ _ upd_same⟩
  | tt =>
    obtain ⟨a, rfl, ha⟩ := ht
    refine ⟨_, .inr ha, .str "always", rfl, _, .inr ha, .str "always", rfl, _, .inr ha, .str "always", rfl, ?_⟩
    refine ⟨Nat.zero_le _, fun D nD => ?_⟩
    exact q _ D [] (same_new nD) nD upd_same ⟨rfl, fun i c hc => nomatch hc⟩
  | ff =>
    obtain ⟨a, rfl, ha⟩ := ht
    refine ⟨_, .inr ha, .str "never", rfl, _, .inr ha, .str "never", rfl, _, .inr ha, .str "never", rfl, ?_⟩
    refine ⟨Nat.zero_le _, fun D nD => ?_⟩
    exact q _ D [] (same_new nD) nD upd_same ⟨rfl, fun i c hc => nomatch hc⟩
  | con b l r =>
    obtain ⟨a, x, y, rfl, ha, hx, hy⟩ := ht
    have i1 : atI [V.str (wd b), x, y] (1 : Int) = some x := rfl
    have i2 : atI [V.str (wd b), x, y] (2 : Int) = some y := rfl
    have dd : max l.depth r.depth + 1 < n + 1 := hd
    have ll : (l.cs ++ r.cs).length ≤ 1000 := hl
    rw [List.length_append] at ll
    cases b with
    | true =>
      refine ⟨_, .inr ha, .str "and", rfl, _, .inr ha, .str "and", rfl, ?_⟩
      refine ⟨_, .inr ha, x, i1, x, l, rfl, hx, by omega, by omega, fun H1 D1 xs s1 n1 h1 p1 => ?_⟩
      refine ⟨_, .inr (SqT.same ha s1), y, i2, y, r, rfl, hy.same s1, by omega, by omega, fun H2 D2 ys s2 n2 h2 p2 => ?_⟩
      refine .inl ⟨_, _, s2 _ _ h1, h2, line_of (by rw [p1.1, p2.1]; omega), fun D nD => ?_⟩
      have sD := same_new (o := .lst (xs ++ ys)) nD
      exact q _ D _ ((s1.trans s2).trans sD) (Same.free (s1.trans s2) nD) upd_same (((p1.same s2).app p2).same sD)
    | false =>
      refine ⟨_, .inr ha, .str "or", rfl, _, .inr ha, .str "or", rfl, _, .inr ha, .str "or", rfl, ?_⟩
      refine ⟨_, .inr ha, x, i1, x, l, rfl, hx, by omega, by omega, fun H1 D1 xs s1 n1 h1 p1 => ?_⟩
      refine ⟨_, .inr (SqT.same ha s1), y, i2, y, r, rfl, hy.same s1, by omega, by omega, fun H2 D2 ys s2 n2 h2 p2 => ?_⟩
      refine .inl ⟨_, _, s2 _ _ h1, h2, line_of (by rw [p1.1, p2.1]; omega), fun D nD => ?_⟩
      have sD := same_new (o := .lst (xs ++ ys)) nD
      exact q _ D _ ((s1.trans s2).trans sD) (Same.free (s1.trans s2) nD) upd_same (((p1.same s2).app p2).same sD)
theorem cpd_all {f : Addr} {fd : FuncData} (F : Fun K "_law_compared" "_law_compared" s__law_compared f fd) (T : Gs K mg t_BOUND t_LETTERS t_LONGEST_NAME a_ALWAYS a_NEVER a_OPPOSITES a_RESERVED a_SIGNS a_BadName a_BadNumber a_BadSign a_Condition a_ElseputError a_TooLarge)
    (b : Binds K fd ["_law_tree"] []) (kp : PySem.W.keepIn K (.ref f) = true) (m : mg "_law_compared" = some (.ref f)) : ∀ n : Nat, FnOk P w K mg base CX0 (n + 2) f fd ["_law_tree"] (spCpd n K)
  | 0 => ⟨fun _ _ _ _ h => len_cpd h, by
    intro A outer s H args us vs Q E _ _ _ _ h
    obtain ⟨_, _, _, _, h, _⟩ := h
    exact absurd h (Nat.not_lt_zero _)⟩
  | n + 1 => cpd_step F T ⟨cpd_all F T b kp m n, b, kp, m⟩ (by omega)
def sp__law_compared : PySem.W.Frag → Sp := spCpd 20
theorem ok__law_compared {f : Addr} {fd : FuncData} (F : Fun K "_law_compared" "_law_compared" s__law_compared f fd) (T : Gs K mg t_BOUND t_LETTERS t_LONGEST_NAME a_ALWAYS a_NEVER a_OPPOSITES a_RESERVED a_SIGNS a_BadName a_BadNumber a_BadSign a_Condition a_ElseputError a_TooLarge) (b : Binds K fd ["_law_tree"] []) (kp : PySem.W.keepIn K (.ref f) = true) (m : mg "_law_compared" = some (.ref f)) :
    FnOk P w K mg base CX0 22 f fd ["_law_tree"] (sp__law_compared K) := cpd_all F T b kp m 20
def sp__law_field_names (K : PySem.W.Frag) : Sp := fun vs H Q _ => ∃ (v : V) (t : Tr), vs = [v] ∧ TAt K H t v ∧ t.depth < 20 ∧ t.cs.length ≤ 1000 ∧ ∀ (H' : Hp) (u : Addr) (ss : List Str), Same H H' → H' u = some (.tup (ss.map V.str)) → PwS ss → (∀ k, k ∈ ss ↔ k ∈ t.flds) → Q (.ref u) H'
theorem len__law_field_names {vs : List V} {H : Hp} {Q : VK} {E : XK} (h : sp__law_field_names K vs H Q E) : vs.length = 1 := by
  obtain ⟨_, _, rfl, _⟩ := h
  rfl
theorem ok__law_field_names {f : Addr} {fd : FuncData} {f__law_compared : Addr} {fd__law_compared : FuncData} {f__law_sorted : Addr} {fd__law_sorted : FuncData} (F : Fun K "_law_field_names" "_law_field_names" s__law_field_names f fd) (T : Gs K mg t_BOUND t_LETTERS t_LONGEST_NAME a_ALWAYS a_NEVER a_OPPOSITES a_RESERVED a_SIGNS a_BadName a_BadNumber a_BadSign a_Condition a_ElseputError a_TooLarge) (c__law_compared : Cal P w K mg base CX0 22 "_law_compared" f__law_compared fd__law_compared ["_law_tree"] (sp__law_compared K)) (c__law_sorted : Cal P w K mg base CX0 1 "_law_sorted" f__law_sorted fd__law_sorted ["_law_row"] (sp__law_sorted K)) : FnOk P w K mg base CX0 23 f fd ["_law_tree"] (sp__law_field_names K) := by
  refine F.ok sc__law_field_names (fun vs H Q E h => len__law_field_names h) (fun cdv A outer s H vs Q E hr h => ?_)
  obtain ⟨v, t, rfl, ht, td, tl, q⟩ := h
  refine ⟨_, (pss_cons (ps_set (i := 1) sc__law_field_names.nd rfl (.inl rfl) (pe_lst pa_nil)) (pss_cons (ps_for PassesOwn.never rfl (pi_list (pe_call c__law_compared.G (hr.mono (by first | decide | omega)) rfl c__law_compared.m c__law_compared.kp c__law_compared.b .nil pass0 (pa_cons (v_ 0) pa_nil))) (pg_name (i := 2) sc__law_field_names.nd rfl (.inl rfl)) (pss_one (ps_if (pt_c (notInK K) (e_x K (v_ 2) pe_int) (v_ 1)) (pss_one (ps_expr (pe_bm PySem.F.plainAttrs_list PySem.F.slot_list_append PySem.F.type_list_append mt_append (v_ 1) (pa_cons (e_x K (v_ 2) pe_int) pa_nil)))) pss_nil))) (pss_one (ps_ret (pe_callTy (tupleK K) (by rfl) T.z_tuple (by decide +kernel) (pa_cons (pe_call c__law_sorted.G (hr.mono (by first | decide | omega)) rfl c__law_sorted.m c__law_sorted.kp c__law_sorted.b .nil pass0 (pa_cons (v_ 1) pa_nil)) pa_nil)))))), ?_⟩
  refine ⟨Nat.zero_le _, fun F nF => ?_⟩
  have sF := same_new (o := .lst []) nF
  have hF0 : (upd H F (.lst [])) F = some (.lst (([] : List Str).map V.str)) := upd_same
  generalize upd H F (.lst []) = H1 at sF hF0 ⊢
  refine ⟨v, t, rfl, ht.same sF, td, tl, fun H2 D xs s2 nD hD hxs => ?_⟩
  have hF2 := s2 _ _ hF0
  have DF : D ≠ F := (ne_of_none hF0 nD).symm
  refine ⟨D, rfl, ⟨_, SqL.of hD⟩, ?_⟩
  refine for_list (K := K) (a := D) (xs := xs) (fun i σ' H' => ∃ (y : Option V) (ws : List Str), σ' = [some v, some (.ref F), y] ∧ Same H H' ∧ H' D = some (.lst xs) ∧ PsAt H' xs t.cs ∧ H' F = some (.lst (ws.map V.str)) ∧ ws.Nodup ∧ ws.length ≤ i ∧ ∀ k, k ∈ ws ↔ k ∈ (t.cs.take i).map (·.1)) ⟨_, [], rfl, sF.trans s2, hD, hxs, hF2, List.Pairwise.nil, Nat.le_refl _, fun k => Iff.rfl⟩ (fun i σ' H' _ ⟨_, _, _, _, h, _⟩ => SqL.of h) ?_ ?_
  · rintro i v2 σ' H3 hi ⟨y, ws, rfl, s3, hD3, hx3, hF3, wn, wl, mm⟩
    have hil : i < t.cs.length := by
      rw [← hx3.1]
      exact (List.getElem?_eq_some_iff.mp hi).1
    obtain ⟨c, ec⟩ : ∃ c, t.cs[i]? = some c := ⟨_, List.getElem?_eq_getElem hil⟩
    obtain ⟨b, eb, hb⟩ := hx3.2 i c ec
    rw [eb] at hi
    cases hi
    refine ⟨_, .inr (SqT.of hb), .str c.1, rfl, _, .inl (SqL.of hF3), rfl, flat_strs, ?_⟩
    have in1 : ∀ {b : Bool}, (!inV (.str c.1) (ws.map V.str)) = b → decide (c.1 ∉ ws) = b := fun {b} h => by
      rw [inV_str] at h
      rw [← h]
      simp
    refine ite2 (fun e => ?_) (fun e => ?_)
    · have e : c.1 ∉ ws := of_decide_eq_true (in1 e)
      refine ⟨.inl ⟨rfl, _, SqL.of hF3⟩, _, .inr (SqT.of hb), .str c.1, rfl, F, _, .str c.1, rfl, rfl, hF3, line_lt (by rw [List.length_map]; omega), ?_⟩
      refine ⟨_, ws ++ [c.1], rfl, fun b2 o hb2 => ?_, by rw [upd_ne DF]; exact hD3, ⟨hx3.1, fun j d hd => ?_⟩, by rw [upd_same, List.map_append]; rfl, ?_, by rw [List.length_append, List.length_singleton]; omega, fun k => ?_⟩
      · rw [upd_ne (ne_of_none hb2 nF)]
        exact s3 _ _ hb2
      · obtain ⟨a2, e2, h2⟩ := hx3.2 j d hd
        exact ⟨a2, e2, by rw [upd_ne (ne_of h2 hF3 (by intro e; cases e))]; exact h2⟩
      · rw [List.nodup_append]
        refine ⟨wn, by simp, fun y hy z hz q => ?_⟩
        rw [List.mem_singleton] at hz
        exact e (hz ▸ q ▸ hy)
      · rw [take_snoc ec, List.map_append, List.mem_append, List.mem_append, mm k]
        simp
    · have e : c.1 ∈ ws := Decidable.not_not.mp (of_decide_eq_false (in1 (Bool.eq_false_iff.mpr e)))
      refine ⟨_, ws, rfl, s3, hD3, hx3, hF3, wn, by omega, fun k => ?_⟩
      rw [take_snoc ec, List.map_append, List.mem_append, mm k]
      constructor
      · exact .inl
      · rintro (h | h)
        · exact h
        · have h : k = c.1 := List.mem_singleton.mp h
          rw [h]
          exact (mm c.1).mp e
  rintro σ' H3 ⟨y, ws, rfl, s3, hD3, hx3, hF3, wn, wl, mm⟩
  rw [hx3.1, List.take_length] at mm
  refine ⟨F, ws, rfl, hF3, wn, by rw [hx3.1] at wl; omega, fun H4 r ss s4 nr hr pw ms sl => ?_⟩
  refine ⟨r, _, rfl, .inl ⟨SqL.of hr, fun u nu => ?_⟩⟩
  exact q _ u ss ((s3.trans s4).trans (same_new nu)) upd_same pw fun k => (ms k).trans (mm k)
end
section
variable {P : Program} {w : World} {K : PySem.W.Frag} {mg : Str → Option Value} {base : Heap}
variable {t_BOUND t_LETTERS t_LONGEST_NAME : Tok} {a_ALWAYS a_NEVER a_OPPOSITES a_RESERVED a_SIGNS a_BadName a_BadNumber a_BadSign a_Condition a_ElseputError a_TooLarge : Addr}
/-! ### conditions by the law -/
def Tr.pure : Tr → Prop
  | .cmp _ _ _ => True
  | .con _ l r => l.pure ∧ r.pure
  | _ => False
theorem is_pure {t : Tr} (h : t.pure) (b : Bool) : t.is b = false := by
  cases t with
  | tt => exact h.elim
  | ff => exact h.elim
  | cmp _ _ _ => rfl
  | con _ _ _ => rfl
theorem joinT_pure {w : Bool} {l r : Tr} (hl : l.pure) (hr : r.pure) : joinT w l r = .con w l r := by
  unfold joinT
  rw [is_pure hl, is_pure hr, is_pure hl, is_pure hr]
  rfl
theorem pure_depth : ∀ {t : Tr}, t.pure → t.depth + 1 ≤ t.cs.length
  | .cmp _ _ _, _ => Nat.le_refl _
  | .con _ l r, h => by
    have h1 := pure_depth h.1
    have h2 := pure_depth h.2
    show max l.depth r.depth + 1 + 1 ≤ (l.cs ++ r.cs).length
    rw [List.length_append]
    omega
def spCnd (n : Nat) : PySem.W.Frag → Sp := fun K vs H Q _ => ∃ (v : V) (t : Tr), vs = [v] ∧ TAt K H t v ∧ t.depth < n ∧ Gd t ∧ t.cs.length ≤ 8 ∧ (t.pure ∨ t = .tt ∨ t = .ff) ∧
  ∀ (H' : Hp) (a : Addr), Same H H' → H a = none → CnAt K H' a t → Q (.ref a) H'
theorem len_cnd {n : Nat} {vs : List V} {H : Hp} {Q : VK} {E : XK} (h : spCnd n K vs H Q E) : vs.length = 1 := by
  obtain ⟨_, _, rfl, _⟩ := h
  rfl
theorem cnd_step {n k : Nat} {f : Addr} {fd : FuncData} {f_Condition_compare : Addr} {fd_Condition_compare : FuncData} {p_Condition_compare : Addr} {f_Condition_always : Addr} {fd_Condition_always : FuncData} {p_Condition_always : Addr} {f_Condition_never : Addr} {fd_Condition_never : FuncData} {p_Condition_never : Addr} {f_Condition___and__ : Addr} {fd_Condition___and__ : FuncData} {f_Condition___or__ : Addr} {fd_Condition___or__ : FuncData} (F : Fun K "_law_condition" "_law_condition" s__law_condition f fd) (T : Gs K mg t_BOUND t_LETTERS t_LONGEST_NAME a_ALWAYS a_NEVER a_OPPOSITES a_RESERVED a_SIGNS a_BadName a_BadNumber a_BadSign a_Condition a_ElseputError a_TooLarge) (c_Condition_compare : CalS P w K mg base (L2.CX P w) 25 a_Condition p_Condition_compare "compare" f_Condition_compare fd_Condition_compare ["field", "sign", "number"] (sp_Condition_compare K)) (c_Condition_always : CalS P w K mg base CX0 25 a_Condition p_Condition_always "always" f_Condition_always fd_Condition_always [] (sp_Condition_always K)) (c_Condition_never : CalS P w K mg base CX0 25 a_Condition p_Condition_never "never" f_Condition_never fd_Condition_never [] (sp_Condition_never K)) (c_Condition___and__ : CalO P w K mg base (L2.CX P w) 26 a_Condition .BitAnd f_Condition___and__ fd_Condition___and__ ["self", "other"] (sp_Condition___and__ K)) (c_Condition___or__ : CalO P w K mg base (L2.CX P w) 26 a_Condition .BitOr f_Condition___or__ fd_Condition___or__ ["self", "other"] (sp_Condition___or__ K))
    (c__law_condition : Cal P w K mg base CX0 k "_law_condition" f fd ["_law_tree"] (spCnd n K)) (hk : 26 ≤ k) : FnOk P w K mg base CX0 (k + 1) f fd ["_law_tree"] (spCnd (n + 1) K) := by
  refine F.ok sc__law_condition (fun vs H Q E h => len_cnd h) (fun cdv A outer s H vs Q E hr h => ?_)
  obtain ⟨v, t, rfl, ht, hd, g, hc, hp, q⟩ := h
  refine ⟨_, (pss_cons (ps_if (pt_c (eqK K hr.units) (e_x K (v_ 0) pe_int) pe_str) (pss_one (ps_ret (pe_smeth0 (pe_glob (v := .ref a_Condition) rfl T.g_Condition rfl) c_Condition_always.rd c_Condition_always.sm c_Condition_always.G (hr.mono (by first | decide | omega)) c_Condition_always.b pass0))) pss_nil) (pss_cons (ps_if (pt_c (eqK K hr.units) (e_x K (v_ 0) pe_int) pe_str) (pss_one (ps_ret (pe_smeth0 (pe_glob (v := .ref a_Condition) rfl T.g_Condition rfl) c_Condition_never.rd c_Condition_never.sm c_Condition_never.G (hr.mono (by first | decide | omega)) c_Condition_never.b pass0))) pss_nil) (pss_cons (ps_if (pt_c (eqK K hr.units) (e_x K (v_ 0) pe_int) pe_str) (pss_one (ps_ret (pe_op (op_own c_Condition___and__.op c_Condition___and__.G (hr.mono (by first | decide | omega)) c_Condition___and__.b passL) (pe_call c__law_condition.G (hr.mono (by first | decide | omega)) rfl c__law_condition.m c__law_condition.kp c__law_condition.b .nil pass0 (pa_cons (e_x K (v_ 0) pe_int) pa_nil)) (pe_call c__law_condition.G (hr.mono (by first | decide | omega)) rfl c__law_condition.m c__law_condition.kp c__law_condition.b .nil pass0 (pa_cons (e_x K (v_ 0) pe_int) pa_nil))))) pss_nil) (pss_cons (ps_if (pt_c (eqK K hr.units) (e_x K (v_ 0) pe_int) pe_str) (pss_one (ps_ret (pe_op (op_own c_Condition___or__.op c_Condition___or__.G (hr.mono (by first | decide | omega)) c_Condition___or__.b passL) (pe_call c__law_condition.G (hr.mono (by first | decide | omega)) rfl c__law_condition.m c__law_condition.kp c__law_condition.b .nil pass0 (pa_cons (e_x K (v_ 0) pe_int) pa_nil)) (pe_call c__law_condition.G (hr.mono (by first | decide | omega)) rfl c__law_condition.m c__law_condition.kp c__law_condition.b .nil pass0 (pa_cons (e_x K (v_ 0) pe_int) pa_nil))))) pss_nil) (pss_one (ps_ret (pe_smeth (pe_glob (v := .ref a_Condition) rfl T.g_Condition rfl) c_Condition_compare.rd c_Condition_compare.sm c_Condition_compare.G (hr.mono (by first | decide | omega)) c_Condition_compare.b passL (pa_cons (e_x K (v_ 0) pe_int) (pa_cons (e_x K (v_ 0) pe_int) (pa_cons (e_x K (v_ 0) pe_int) pa_nil)))))))))), ?_⟩
  cases t with
  | tt =>
    obtain ⟨a, rfl, ha⟩ := ht
    refine ⟨_, .inr ha, .str "always", rfl, ?_⟩
    exact ⟨rfl, rfl, fun H1 c s1 nc h1 => q H1 c s1 nc h1⟩
  | ff =>
    obtain ⟨a, rfl, ha⟩ := ht
    refine ⟨_, .inr ha, .str "never", rfl, _, .inr ha, .str "never", rfl, ?_⟩
    exact ⟨rfl, rfl, fun H1 c s1 nc h1 => q H1 c s1 nc h1⟩
  | cmp f s m =>
    obtain ⟨a, rfl, ha⟩ := ht
    have i2 : atI [V.str "compare", .str f, .str s, .int m] (2 : Int) = some (.str s) := rfl
    have i3 : atI [V.str "compare", .str f, .str s, .int m] (3 : Int) = some (.int m) := rfl
    refine ⟨_, .inr ha, .str "compare", rfl, _, .inr ha, .str "compare", rfl, _, .inr ha, .str "compare", rfl, _, .inr ha, .str "compare", rfl, ?_⟩
    exact ⟨rfl, _, .inr ha, .str f, rfl, _, .inr ha, .str s, i2, _, .inr ha, .int m, i3, f, s, m, rfl, g.ok, fun H1 c s1 nc h1 => q H1 c s1 nc h1⟩
  | con b l r =>
    obtain ⟨a, x, y, rfl, ha, hx, hy⟩ := ht
    have i1 : atI [V.str (wd b), x, y] (1 : Int) = some x := rfl
    have i2 : atI [V.str (wd b), x, y] (2 : Int) = some y := rfl
    have dd : max l.depth r.depth + 1 < n + 1 := hd
    have d9 : max l.depth r.depth + 1 ≤ 9 := g.dp
    have ll : (l.cs ++ r.cs).length ≤ 8 := hc
    rw [List.length_append] at ll
    obtain ⟨pl, pr⟩ : l.pure ∧ r.pure := by
      rcases hp with h | h | h
      · exact h
      · cases h
      · cases h
    cases b with
    | true =>
      refine ⟨_, .inr ha, .str "and", rfl, _, .inr ha, .str "and", rfl, _, .inr ha, .str "and", rfl, ?_⟩
      refine ⟨_, .inr ha, x, i1, x, l, rfl, hx, by omega, ⟨g.ok.l, by omega, by omega⟩, by omega, .inl pl, fun H1 a1 s1 n1 h1 => ?_⟩
      refine ⟨_, .inr (SqT.same ha s1), y, i2, y, r, rfl, hy.same s1, by omega, ⟨g.ok.r, by omega, by omega⟩, by omega, .inl pr, fun H2 a2 s2 n2 h2 => ?_⟩
      have h1 := h1.same s2
      obtain ⟨C1, dx1, u1, v1, ss1, hC1, e1, _⟩ := id h1
      cases hC1.symm.trans T.n_Condition
      obtain ⟨C2, dx2, u2, v2, ss2, hC2, e2, _⟩ := id h2
      cases hC2.symm.trans T.n_Condition
      refine ⟨a1, a2, dx1, _, dx2, _, rfl, rfl, e1, e2, a1, a2, l, r, rfl, h1, h2, ⟨g.ok.l, by omega, by omega⟩, ⟨g.ok.r, by omega, by omega⟩, ?_⟩
      unfold JoinO
      rw [joinT_pure pl pr, if_pos hc]
      exact fun H3 c s3 nc hc3 => q H3 c ((s1.trans s2).trans s3) (Same.free (s1.trans s2) nc) hc3
    | false =>
      refine ⟨_, .inr ha, .str "or", rfl, _, .inr ha, .str "or", rfl, _, .inr ha, .str "or", rfl, _, .inr ha, .str "or", rfl, ?_⟩
      refine ⟨_, .inr ha, x, i1, x, l, rfl, hx, by omega, ⟨g.ok.l, by omega, by omega⟩, by omega, .inl pl, fun H1 a1 s1 n1 h1 => ?_⟩
      refine ⟨_, .inr (SqT.same ha s1), y, i2, y, r, rfl, hy.same s1, by omega, ⟨g.ok.r, by omega, by omega⟩, by omega, .inl pr, fun H2 a2 s2 n2 h2 => ?_⟩
      have h1 := h1.same s2
      obtain ⟨C1, dx1, u1, v1, ss1, hC1, e1, _⟩ := id h1
      cases hC1.symm.trans T.n_Condition
      obtain ⟨C2, dx2, u2, v2, ss2, hC2, e2, _⟩ := id h2
      cases hC2.symm.trans T.n_Condition
      refine ⟨a1, a2, dx1, _, dx2, _, rfl, rfl, e1, e2, a1, a2, l, r, rfl, h1, h2, ⟨g.ok.l, by omega, by omega⟩, ⟨g.ok.r, by omega, by omega⟩, ?_⟩
      unfold JoinO
      rw [joinT_pure pl pr, if_pos hc]
      exact fun H3 c s3 nc hc3 => q H3 c ((s1.trans s2).trans s3) (Same.free (s1.trans s2) nc) hc3
theorem cnd_all {f : Addr} {fd : FuncData} {f_Condition_compare : Addr} {fd_Condition_compare : FuncData} {p_Condition_compare : Addr} {f_Condition_always : Addr} {fd_Condition_always : FuncData} {p_Condition_always : Addr} {f_Condition_never : Addr} {fd_Condition_never : FuncData} {p_Condition_never : Addr} {f_Condition___and__ : Addr} {fd_Condition___and__ : FuncData} {f_Condition___or__ : Addr} {fd_Condition___or__ : FuncData} (F : Fun K "_law_condition" "_law_condition" s__law_condition f fd) (T : Gs K mg t_BOUND t_LETTERS t_LONGEST_NAME a_ALWAYS a_NEVER a_OPPOSITES a_RESERVED a_SIGNS a_BadName a_BadNumber a_BadSign a_Condition a_ElseputError a_TooLarge) (c_Condition_compare : CalS P w K mg base (L2.CX P w) 25 a_Condition p_Condition_compare "compare" f_Condition_compare fd_Condition_compare ["field", "sign", "number"] (sp_Condition_compare K)) (c_Condition_always : CalS P w K mg base CX0 25 a_Condition p_Condition_always "always" f_Condition_always fd_Condition_always [] (sp_Condition_always K)) (c_Condition_never : CalS P w K mg base CX0 25 a_Condition p_Condition_never "never" f_Condition_never fd_Condition_never [] (sp_Condition_never K)) (c_Condition___and__ : CalO P w K mg base (L2.CX P w) 26 a_Condition .BitAnd f_Condition___and__ fd_Condition___and__ ["self", "other"] (sp_Condition___and__ K)) (c_Condition___or__ : CalO P w K mg base (L2.CX P w) 26 a_Condition .BitOr f_Condition___or__ fd_Condition___or__ ["self", "other"] (sp_Condition___or__ K))
    (b : Binds K fd ["_law_tree"] []) (kp : PySem.W.keepIn K (.ref f) = true) (m : mg "_law_condition" = some (.ref f)) : ∀ n : Nat, FnOk P w K mg base CX0 (n + 28) f fd ["_law_tree"] (spCnd n K)
  | 0 => ⟨fun _ _ _ _ h => len_cnd h, by
    intro A outer s H args us vs Q E _ _ _ _ h
    obtain ⟨_, _, _, _, h, _⟩ := h
    exact absurd h (Nat.not_lt_zero _)⟩
  | n + 1 => cnd_step F T c_Condition_compare c_Condition_always c_Condition_never c_Condition___and__ c_Condition___or__ ⟨cnd_all F T c_Condition_compare c_Condition_always c_Condition_never c_Condition___and__ c_Condition___or__ b kp m n, b, kp, m⟩ (by omega)
def sp__law_condition : PySem.W.Frag → Sp := spCnd 20
theorem ok__law_condition {f : Addr} {fd : FuncData} {f_Condition_compare : Addr} {fd_Condition_compare : FuncData} {p_Condition_compare : Addr} {f_Condition_always : Addr} {fd_Condition_always : FuncData} {p_Condition_always : Addr} {f_Condition_never : Addr} {fd_Condition_never : FuncData} {p_Condition_never : Addr} {f_Condition___and__ : Addr} {fd_Condition___and__ : FuncData} {f_Condition___or__ : Addr} {fd_Condition___or__ : FuncData} (F : Fun K "_law_condition" "_law_condition" s__law_condition f fd) (T : Gs K mg t_BOUND t_LETTERS t_LONGEST_NAME a_ALWAYS a_NEVER a_OPPOSITES a_RESERVED a_SIGNS a_BadName a_BadNumber a_BadSign a_Condition a_ElseputError a_TooLarge) (c_Condition_compare : CalS P w K mg base (L2.CX P w) 25 a_Condition p_Condition_compare "compare" f_Condition_compare fd_Condition_compare ["field", "sign", "number"] (sp_Condition_compare K)) (c_Condition_always : CalS P w K mg base CX0 25 a_Condition p_Condition_always "always" f_Condition_always fd_Condition_always [] (sp_Condition_always K)) (c_Condition_never : CalS P w K mg base CX0 25 a_Condition p_Condition_never "never" f_Condition_never fd_Condition_never [] (sp_Condition_never K)) (c_Condition___and__ : CalO P w K mg base (L2.CX P w) 26 a_Condition .BitAnd f_Condition___and__ fd_Condition___and__ ["self", "other"] (sp_Condition___and__ K)) (c_Condition___or__ : CalO P w K mg base (L2.CX P w) 26 a_Condition .BitOr f_Condition___or__ fd_Condition___or__ ["self", "other"] (sp_Condition___or__ K)) (b : Binds K fd ["_law_tree"] []) (kp : PySem.W.keepIn K (.ref f) = true) (m : mg "_law_condition" = some (.ref f)) :
    FnOk P w K mg base CX0 48 f fd ["_law_tree"] (sp__law_condition K) := cnd_all F T c_Condition_compare c_Condition_always c_Condition_never c_Condition___and__ c_Condition___or__ b kp m 20
end
section
variable {P : Program} {w : World} {K : PySem.W.Frag} {mg : Str → Option Value} {base : Heap}
variable {t_BOUND t_LETTERS t_LONGEST_NAME : Tok} {a_ALWAYS a_NEVER a_OPPOSITES a_RESERVED a_SIGNS a_BadName a_BadNumber a_BadSign a_Condition a_ElseputError a_TooLarge : Addr}
/-! ### leaves and trees, drawn -/
def TsAt (K : PySem.W.Frag) (H : Hp) (xs : List V) (ts : List Tr) : Prop := xs.length = ts.length ∧ ∀ (i : Nat) (t : Tr), ts[i]? = some t → ∃ v : V, xs[i]? = some v ∧ TAt K H t v
theorem TsAt.same {K : PySem.W.Frag} {H H' : Hp} {xs : List V} {ts : List Tr} (h : TsAt K H xs ts) (s : Same H H') : TsAt K H' xs ts := ⟨h.1, fun i t ht => by
  obtain ⟨v, e, q⟩ := h.2 i t ht
  exact ⟨v, e, q.same s⟩⟩
theorem TsAt.bt {K : PySem.W.Frag} {H H' : Hp} {st : Addr} {xs : List V} {ts : List Tr} (h : TsAt K H xs ts) (hs : ∃ l, H st = some (.lst l)) (s : Bt st H H') : TsAt K H' xs ts := ⟨h.1, fun i t ht => by
  obtain ⟨v, e, q⟩ := h.2 i t ht
  exact ⟨v, e, q.bt (NT.lst hs) s⟩⟩
theorem TsAt.app {K : PySem.W.Frag} {H : Hp} {xs ys : List V} {ts us : List Tr} (h : TsAt K H xs ts) (k : TsAt K H ys us) : TsAt K H (xs ++ ys) (ts ++ us) := ⟨by rw [List.length_append, List.length_append, h.1, k.1], fun i c hc => by
  by_cases e : i < ts.length
  · rw [List.getElem?_append_left e] at hc
    rw [List.getElem?_append_left (by rw [h.1]; exact e)]
    exact h.2 i c hc
  · rw [List.getElem?_append_right (by omega)] at hc
    rw [List.getElem?_append_right (by rw [h.1]; omega), h.1]
    exact k.2 _ c hc⟩
theorem TsAt.take {K : PySem.W.Frag} {H : Hp} {xs : List V} {ts : List Tr} (h : TsAt K H xs ts) (k : Nat) : TsAt K H (xs.take k) (ts.take k) := ⟨by rw [List.length_take, List.length_take, h.1], fun i t ht => by
  rw [List.getElem?_take] at ht ⊢
  split at ht
  · rename_i hk
    rw [if_pos hk]
    exact h.2 i t ht
  · cases ht⟩
theorem TsAt.drop {K : PySem.W.Frag} {H : Hp} {xs : List V} {ts : List Tr} (h : TsAt K H xs ts) (k : Nat) : TsAt K H (xs.drop k) (ts.drop k) := ⟨by rw [List.length_drop, List.length_drop, h.1], fun i t ht => by
  rw [List.getElem?_drop] at ht ⊢
  exact h.2 _ t ht⟩
theorem TsAt.one {K : PySem.W.Frag} {H : Hp} {x : V} {t : Tr} (h : TAt K H t x) : TsAt K H [x] [t] := ⟨rfl, fun i u hu => by
  match i, hu with
  | 0, hu => cases hu; exact ⟨x, rfl, h⟩⟩
/-- grown trees -/
def Gr (ts : List Tr) : Prop := ∀ t ∈ ts, t.pure ∧ t.ok
def tot (ts : List Tr) : Nat := (ts.map fun t => t.cs.length).sum
def sp__law_leaves (K : PySem.W.Frag) : Sp := fun vs H Q _ => ∃ (st scr p : Addr) (zs : List Str) (n : Nat), vs = [.ref st, .ref p, .int n] ∧ DrAt H st scr ∧ H p = some (.lst (zs.map V.str)) ∧ p ≠ st ∧ 0 < zs.length ∧ zs.length ≤ 26 ∧ (∀ z ∈ zs, isName z = true) ∧ n ≤ 26 ∧
  ∀ (H' : Hp) (D : Addr) (xs : List V) (ts : List Tr), Bt st H H' → DrAt H' st scr → H D = none → H' D = some (.lst xs) → TsAt K H' xs ts → Gr ts → (∀ t ∈ ts, t.cs.length = 1) → ts.length = n → Q (.ref D) H'
theorem len__law_leaves {vs : List V} {H : Hp} {Q : VK} {E : XK} (h : sp__law_leaves K vs H Q E) : vs.length = 3 := by
  obtain ⟨_, _, _, _, _, rfl, _⟩ := h
  rfl
theorem ok__law_leaves {f : Addr} {fd : FuncData} {f__law_pick : Addr} {fd__law_pick : FuncData} {f__law_constant : Addr} {fd__law_constant : FuncData} (F : Fun K "_law_leaves" "_law_leaves" s__law_leaves f fd) (T : Gs K mg t_BOUND t_LETTERS t_LONGEST_NAME a_ALWAYS a_NEVER a_OPPOSITES a_RESERVED a_SIGNS a_BadName a_BadNumber a_BadSign a_Condition a_ElseputError a_TooLarge) (c__law_pick : Cal P w K mg base CX0 2 "_law_pick" f__law_pick fd__law_pick ["_law_state_here", "_law_row"] (sp__law_pick K)) (c__law_constant : Cal P w K mg base CX0 3 "_law_constant" f__law_constant fd__law_constant ["_law_state_here"] (sp__law_constant K)) : FnOk P w K mg base CX0 4 f fd ["_law_state_here", "_law_fields", "_law_many"] (sp__law_leaves K) := by
  refine F.ok sc__law_leaves (fun vs H Q E h => len__law_leaves h) (fun cdv A outer s H vs Q E hr h => ?_)
  obtain ⟨st, scr, p, zs, n, rfl, hd, hp, ps, z0, z26, zn, n26, q⟩ := h
  refine ⟨_, (pss_cons (ps_set (i := 3) sc__law_leaves.nd rfl (.inl rfl) (pe_lst pa_nil)) (pss_cons (ps_for PassesOwn.never rfl (pi_range1 rfl T.z_range (pa_cons (v_ 2) pa_nil)) (pg_name (i := 4) sc__law_leaves.nd rfl (.inl rfl)) (pss_cons (ps_set (i := 5) sc__law_leaves.nd rfl (.inl rfl) (pe_call c__law_pick.G (hr.mono (by first | decide | omega)) rfl c__law_pick.m c__law_pick.kp c__law_pick.b .nil pass0 (pa_cons (v_ 0) (pa_cons (pe_lst (pa_cons pe_str (pa_cons pe_str (pa_cons pe_str (pa_cons pe_str (pa_cons pe_str (pa_cons pe_str pa_nil))))))) pa_nil)))) (pss_one (ps_expr (pe_bm PySem.F.plainAttrs_list PySem.F.slot_list_append PySem.F.type_list_append mt_append (v_ 3) (pa_cons (pe_tup (pa_cons pe_str (pa_cons (pe_call c__law_pick.G (hr.mono (by first | decide | omega)) rfl c__law_pick.m c__law_pick.kp c__law_pick.b .nil pass0 (pa_cons (v_ 0) (pa_cons (v_ 1) pa_nil))) (pa_cons (v_ 5) (pa_cons (pe_call c__law_constant.G (hr.mono (by first | decide | omega)) rfl c__law_constant.m c__law_constant.kp c__law_constant.b .nil pass0 (pa_cons (v_ 0) pa_nil)) pa_nil))))) pa_nil)))))) (pss_one (ps_ret (v_ 3))))), ?_⟩
  refine ⟨Nat.zero_le _, fun D nD => ?_⟩
  have Ds : D ≠ st := hd.ne_new nD
  have Dc : D ≠ scr := hd.ne_scr nD
  have pD : p ≠ D := ne_of_none hp nD
  refine ⟨n, rfl, by omega, by omega, ?_⟩
  refine for_range (lo := 0) (n := n) (fun i σ' H' => ∃ (x y : Option V) (xs : List V) (ts : List Tr), σ' = [some (.ref st), some (.ref p), some (.int n), some (.ref D), x, y] ∧ Bt st H H' ∧ DrAt H' st scr ∧ H' D = some (.lst xs) ∧ TsAt K H' xs ts ∧ Gr ts ∧ (∀ t ∈ ts, t.cs.length = 1) ∧ ts.length = i) ⟨_, _, [], [], rfl, Bt.same (same_new nD), hd.new (same_new nD), upd_same, ⟨rfl, fun i t h => nomatch h⟩, (fun _ h => nomatch h), (fun _ h => nomatch h), rfl⟩ ?_ ?_
  · rintro i σ' H1 hi ⟨x, y, xs, ts, rfl, b1, hd1, hD, hts, hg, h1, hl⟩
    refine ⟨(by show 6 ≤ sizeLine; decide), fun W nW => ?_⟩
    have sW := same_new (o := .lst (signs.map V.str)) nW
    have hW := upd_same (H := H1) (a := W) (o := .lst (signs.map V.str))
    have b2 := b1.trans (Bt.same (st := st) sW)
    have hd2 := hd1.new sW
    have hD2 := sW _ _ hD
    have hts2 := hts.same sW
    have Ws : W ≠ st := hd1.ne_new nW
    refine ⟨st, scr, _, rfl, hd2, .inr ⟨W, _, rfl, hW, Ws, (by show 0 < 6; decide), (by show 6 ≤ 1000; decide), fun v l hv hd3 => ?_⟩⟩
    obtain ⟨s, hs, rfl⟩ := List.mem_map.mp hv
    have b3 := b2.trans (Bt.st (st := st) (o := .lst l))
    have hD3 : (upd (upd H1 W (.lst (signs.map V.str))) st (.lst l)) D = some (.lst xs) := by rw [upd_ne Ds]; exact hD2
    have hts3 := hts2.bt hd2.lst (Bt.st (o := .lst l))
    generalize hH3 : upd (upd H1 W _) st _ = H3 at hd3 ⊢
    replace b3 : Bt st H H3 := by rw [← hH3]; exact b3
    replace hD3 : H3 D = some (.lst xs) := by rw [← hH3]; exact hD3
    replace hts3 : TsAt K H3 xs ts := by rw [← hH3]; exact hts3
    clear hH3 hW hD2 hts2 b2 hd2
    refine ⟨.inl ⟨rfl, _, SqL.of hD3⟩, ?_⟩
    refine ⟨st, scr, _, rfl, hd3, .inr ⟨p, _, rfl, b3 _ _ ps hp, ps, by rw [List.length_map]; exact z0, by rw [List.length_map]; omega, fun v2 l2 hv2 hd4 => ?_⟩⟩
    obtain ⟨z, hz, rfl⟩ := List.mem_map.mp hv2
    have b4 := b3.trans (Bt.st (st := st) (o := .lst l2))
    have hD4 : (upd H3 st (.lst l2)) D = some (.lst xs) := by rw [upd_ne Ds]; exact hD3
    have hts4 := hts3.bt hd3.lst (Bt.st (o := .lst l2))
    generalize upd H3 st (.lst l2) = H4 at b4 hD4 hts4 hd4 ⊢
    refine ⟨st, scr, rfl, hd4, fun l3 m hm hd5 => ?_⟩
    have b5 := b4.trans (Bt.st (st := st) (o := .lst l3))
    have hD5 : (upd H4 st (.lst l3)) D = some (.lst xs) := by rw [upd_ne Ds]; exact hD4
    have hts5 := hts4.bt hd4.lst (Bt.st (o := .lst l3))
    generalize upd H4 st (.lst l3) = H5 at b5 hD5 hts5 hd5 ⊢
    refine ⟨(by show 4 ≤ sizeLine; decide), fun u nu => ?_⟩
    have su := same_new (o := .tup [.str "compare", .str z, .str s, .int m]) nu
    have hu := upd_same (H := H5) (a := u) (o := .tup [.str "compare", .str z, .str s, .int m])
    have b6 := b5.trans (Bt.same (st := st) su)
    have hd6 := hd5.new su
    have hD6 := su _ _ hD5
    have hts6 := hts5.same su
    generalize upd H5 u (.tup [.str "compare", .str z, .str s, .int m]) = H6 at su hu b6 hd6 hD6 hts6 ⊢
    refine ⟨D, xs, .ref u, rfl, rfl, hD6, line_lt (by rw [hts6.1]; omega), ?_⟩
    have hn : NT H6 D := NT.lst ⟨_, hD6⟩
    have uD : u ≠ D := ne_of hu hD6 (by intro e; cases e)
    have tt : TAt K (upd H6 D (.lst (xs ++ [.ref u]))) (.cmp z s m) (.ref u) := ⟨u, rfl, SqT.of (by rw [upd_ne uD]; exact hu)⟩
    refine ⟨_, _, xs ++ [.ref u], ts ++ [.cmp z s m], rfl, fun c o nc hc => ?_, hd6.at Ds Dc, upd_same, TsAt.app (hts6.bt ⟨_, hD6⟩ Bt.st) (TsAt.one tt), fun t ht => ?_, fun t ht => ?_, by rw [List.length_append, hl]; rfl⟩
    · rw [upd_ne (ne_of_none hc nD)]
      exact b6 c o nc hc
    · rcases List.mem_append.mp ht with h | h
      · exact hg t h
      · rw [List.mem_singleton.mp h]
        refine ⟨True.intro, fun c hc => ?_⟩
        rw [List.mem_singleton.mp hc]
        exact ⟨zn z hz, hs, hm⟩
    · rcases List.mem_append.mp ht with h | h
      · exact h1 t h
      · rw [List.mem_singleton.mp h]
        rfl
  · rintro σ' H1 ⟨x, y, xs, ts, rfl, b1, hd1, hD, hts, hg, h1, hl⟩
    exact q H1 D xs ts b1 hd1 nD hD hts hg h1 hl
end
section
variable {P : Program} {w : World} {K : PySem.W.Frag} {mg : Str → Option Value} {base : Heap}
variable {t_BOUND t_LETTERS t_LONGEST_NAME : Tok} {a_ALWAYS a_NEVER a_OPPOSITES a_RESERVED a_SIGNS a_BadName a_BadNumber a_BadSign a_Condition a_ElseputError a_TooLarge : Addr}
theorem tot_app (a b : List Tr) : tot (a ++ b) = tot a + tot b := by
  unfold tot
  rw [List.map_append, List.sum_append]
theorem split2 {ts : List Tr} {k : Nat} {t1 t2 : Tr} (h1 : ts[k]? = some t1) (h2 : ts[k + 1]? = some t2) : ts = ts.take k ++ [t1] ++ [t2] ++ ts.drop (k + 2) := by
  have e1 := take_snoc h1
  have e2 := take_snoc h2
  rw [← e1, ← e2, List.take_append_drop]
theorem tot_one (t : Tr) : tot [t] = t.cs.length := by
  unfold tot
  simp
theorem tot_join {ts : List Tr} {k : Nat} {t1 t2 : Tr} {w : Bool} (h1 : ts[k]? = some t1) (h2 : ts[k + 1]? = some t2) : tot (ts.take k ++ [.con w t1 t2] ++ ts.drop (k + 2)) = tot ts := by
  have e := congrArg tot (split2 h1 h2)
  rw [e]
  rw [tot_app, tot_app, tot_app, tot_app, tot_app, tot_one, tot_one, tot_one]
  have : (Tr.con w t1 t2).cs.length = t1.cs.length + t2.cs.length := by
    show (t1.cs ++ t2.cs).length = _
    rw [List.length_append]
  omega
theorem tot_ones : ∀ {ts : List Tr}, (∀ t ∈ ts, t.cs.length = 1) → tot ts = ts.length
  | [], _ => rfl
  | t :: r, h => by
    have ih := tot_ones (ts := r) fun u hu => h u (List.mem_cons_of_mem _ hu)
    have : tot (t :: r) = t.cs.length + tot r := by
      unfold tot
      simp
    rw [this, h t List.mem_cons_self, ih, List.length_cons]
    omega
def sp__law_grown (K : PySem.W.Frag) : Sp := fun vs H Q _ => ∃ (st scr p : Addr) (xs : List V) (ts : List Tr), vs = [.ref st, .ref p] ∧ DrAt H st scr ∧ H p = some (.lst xs) ∧ p ≠ st ∧ TsAt K H xs ts ∧ Gr ts ∧ (∀ t ∈ ts, t.cs.length = 1) ∧ 0 < ts.length ∧ ts.length ≤ 26 ∧
  ∀ (H' : Hp) (v : V) (t : Tr), Bt st H H' → DrAt H' st scr → TAt K H' t v → t.pure → t.ok → t.cs.length = ts.length → Q v H'
theorem len__law_grown {vs : List V} {H : Hp} {Q : VK} {E : XK} (h : sp__law_grown K vs H Q E) : vs.length = 2 := by
  obtain ⟨_, _, _, _, _, rfl, _⟩ := h
  rfl
theorem ok__law_grown {f : Addr} {fd : FuncData} {f__law_draw : Addr} {fd__law_draw : FuncData} {f__law_pick : Addr} {fd__law_pick : FuncData} (F : Fun K "_law_grown" "_law_grown" s__law_grown f fd) (T : Gs K mg t_BOUND t_LETTERS t_LONGEST_NAME a_ALWAYS a_NEVER a_OPPOSITES a_RESERVED a_SIGNS a_BadName a_BadNumber a_BadSign a_Condition a_ElseputError a_TooLarge) (c__law_draw : Cal P w K mg base CX0 1 "_law_draw" f__law_draw fd__law_draw ["_law_state_here", "_law_many"] (sp__law_draw K)) (c__law_pick : Cal P w K mg base CX0 2 "_law_pick" f__law_pick fd__law_pick ["_law_state_here", "_law_row"] (sp__law_pick K)) : FnOk P w K mg base CX0 3 f fd ["_law_state_here", "_law_leaves_here"] (sp__law_grown K) := by
  refine F.ok sc__law_grown (fun vs H Q E h => len__law_grown h) (fun cdv A outer s H vs Q E hr h => ?_)
  obtain ⟨st, scr, p, xs0, ts0, rfl, hd, hp, ps, hts0, hg0, h10, n0, n26, q⟩ := h
  refine ⟨_, (pss_cons (ps_set (i := 2) sc__law_grown.nd rfl (.inl rfl) (pe_callTy (listK K) (by rfl) T.z_list (by decide +kernel) (pa_cons (v_ 1) pa_nil))) (pss_cons (ps_for PassesOwn.never rfl (pi_range1 rfl T.z_range (pa_cons (pe_op op_subM (pe_callB (lenK K) (by rfl) T.z_len PySem.boot_len (pa_cons (v_ 1) pa_nil)) pe_int) pa_nil)) (pg_name (i := 3) sc__law_grown.nd rfl (.inl rfl)) (pss_cons (ps_set (i := 4) sc__law_grown.nd rfl (.inl rfl) (pe_call c__law_draw.G (hr.mono (by first | decide | omega)) rfl c__law_draw.m c__law_draw.kp c__law_draw.b .nil pass0 (pa_cons (v_ 0) (pa_cons (pe_op op_subM (pe_callB (lenK K) (by rfl) T.z_len PySem.boot_len (pa_cons (v_ 2) pa_nil)) pe_int) pa_nil)))) (pss_cons (ps_set (i := 5) sc__law_grown.nd rfl (.inl rfl) (pe_call c__law_pick.G (hr.mono (by first | decide | omega)) rfl c__law_pick.m c__law_pick.kp c__law_pick.b .nil pass0 (pa_cons (v_ 0) (pa_cons (pe_lst (pa_cons pe_str (pa_cons pe_str pa_nil))) pa_nil)))) (pss_one (ps_set (i := 2) sc__law_grown.nd rfl (.inl rfl) (pe_op (addK K) (pe_op (addK K) (pe_slice (slK K) (v_ 2) po_none (po_some (v_ 4))) (pe_lst (pa_cons (pe_tup (pa_cons (v_ 5) (pa_cons (e_x K (v_ 2) (v_ 4)) (pa_cons (e_x K (v_ 2) (pe_op (addK K) (v_ 4) pe_int)) pa_nil)))) pa_nil))) (pe_slice (slK K) (v_ 2) (po_some (pe_op (addK K) (v_ 4) pe_int)) po_none))))))) (pss_one (ps_ret (e_x K (v_ 2) pe_int))))), ?_⟩
  refine ⟨p, _, rfl, .inl (SqL.of hp), fun P nP => ?_⟩
  have sP := same_new (o := .lst xs0) nP
  have hx0 := hts0.1
  refine .inl ⟨_, .inl (SqL.of (sP _ _ hp)), (xs0.length : Int) - 1, rfl, by omega, by omega, ?_⟩
  rw [show (xs0.length : Int) - 1 = ((ts0.length - 1 : Nat) : Int) by omega]
  refine for_range (lo := 0) (n := ts0.length - 1) (fun i σ' H' => ∃ (P : Addr) (xs : List V) (ts : List Tr) (x y z : Option V), σ' = [some (.ref st), some (.ref p), some (.ref P), x, y, z] ∧ Bt st H H' ∧ DrAt H' st scr ∧ P ≠ st ∧ H' P = some (.lst xs) ∧ TsAt K H' xs ts ∧ Gr ts ∧ ts.length + i = ts0.length ∧ tot ts = ts0.length) ⟨P, xs0, ts0, _, _, _, rfl, Bt.same sP, hd.new sP, hd.ne_new nP, upd_same, hts0.same sP, hg0, rfl, tot_ones h10⟩ ?_ ?_
  · rintro i σ' H1 hi ⟨P, xs, ts, x, y, z, rfl, b1, hd1, Ps, hP, hts, hg, hl, ht⟩
    have hxl := hts.1
    refine .inl ⟨_, .inl (SqL.of hP), ?_⟩
    refine ⟨st, scr, _, rfl, hd1, by omega, many_small (by omega) (by omega), fun r l r0 r1 hd2 => ?_⟩
    have b2 := b1.trans (Bt.st (st := st) (o := .lst l))
    have hP2 : (upd H1 st (.lst l)) P = some (.lst xs) := by rw [upd_ne Ps]; exact hP
    have hts2 := hts.bt hd1.lst (Bt.st (o := .lst l))
    generalize upd H1 st (.lst l) = H2 at b2 hP2 hts2 hd2 ⊢
    refine ⟨(by show 2 ≤ sizeLine; decide), fun W nW => ?_⟩
    have sW := same_new (o := .lst ([true, false].map fun b => V.str (wd b))) nW
    have hW := upd_same (H := H2) (a := W) (o := .lst ([true, false].map fun b => V.str (wd b)))
    have b3 := b2.trans (Bt.same (st := st) sW)
    have hd3 := hd2.new sW
    have hP3 := sW _ _ hP2
    have hts3 := hts2.same sW
    have Ws : W ≠ st := hd2.ne_new nW
    refine ⟨st, scr, _, rfl, hd3, .inr ⟨W, _, rfl, hW, Ws, (by show 0 < 2; decide), (by show 2 ≤ 1000; decide), fun v l2 hv hd4 => ?_⟩⟩
    obtain ⟨b, hb, rfl⟩ := List.mem_map.mp hv
    have b4 := b3.trans (Bt.st (st := st) (o := .lst l2))
    have hP4 : (upd (upd H2 W (.lst ([true, false].map fun b => V.str (wd b)))) st (.lst l2)) P = some (.lst xs) := by rw [upd_ne Ps]; exact hP3
    have hts4 := hts3.bt hd3.lst (Bt.st (o := .lst l2))
    generalize hH4 : upd (upd H2 W _) st _ = H4 at hd4 ⊢
    replace b4 : Bt st H H4 := by rw [← hH4]; exact b4
    replace hP4 : H4 P = some (.lst xs) := by rw [← hH4]; exact hP4
    replace hts4 : TsAt K H4 xs ts := by rw [← hH4]; exact hts4
    clear hH4 hW hP3 hts3 b3 hd3 hP2 hts2 b2 hd2
    obtain ⟨t1, et1⟩ : ∃ t1, ts[r.toNat]? = some t1 := ⟨_, List.getElem?_eq_getElem (by omega)⟩
    obtain ⟨t2, et2⟩ : ∃ t2, ts[r.toNat + 1]? = some t2 := ⟨_, List.getElem?_eq_getElem (by omega)⟩
    obtain ⟨x1, ex1, hx1⟩ := hts4.2 _ _ et1
    obtain ⟨x2, ex2, hx2⟩ := hts4.2 _ _ et2
    have a1 : atI xs r = some x1 := by
      have := atI_nat ex1
      rwa [show ((r.toNat : Nat) : Int) = r by omega] at this
    have a2 : atI xs (r + 1) = some x2 := by
      have := atI_nat ex2
      rwa [show ((r.toNat + 1 : Nat) : Int) = r + 1 by omega] at this
    have e1 : cutV xs none (some r) = xs.take r.toNat := cutV_take _ r0
    have e2 : cutV xs (some (r + 2)) none = xs.drop (r.toNat + 2) := by rw [cutV_drop _ (by omega), show (r + 2).toNat = r.toNat + 2 by omega]
    refine ⟨r, rfl, .inl ⟨_, SqL.of hP4, fun p1 n1 => ?_⟩⟩
    rw [e1]
    have q1 := same_new (o := .lst (xs.take r.toNat)) n1
    refine ⟨_, .inl (SqL.of (q1 _ _ hP4)), x1, a1, _, .inl (SqL.of (q1 _ _ hP4)), x2, a2, (by show 3 ≤ sizeLine; decide), fun u nu => ?_⟩
    have qu := same_new (o := .tup [.str (wd b), x1, x2]) nu
    refine ⟨(by show 1 ≤ sizeLine; decide), fun p2 n2 => ?_⟩
    have q2 := same_new (o := .lst [.ref u]) n2
    refine .inl ⟨_, _, q2 _ _ (qu _ _ upd_same), upd_same, line_of (by rw [List.length_take, List.length_singleton]; omega), fun p3 n3 => ?_⟩
    have q3 := same_new (o := .lst (xs.take r.toNat ++ [.ref u])) n3
    have q13 := ((q1.trans qu).trans q2).trans q3
    refine ⟨r + 2, rfl, .inl ⟨_, SqL.of (q13 _ _ hP4), fun p4 n4 => ?_⟩⟩
    rw [e2]
    have q4 := same_new (o := .lst (xs.drop (r.toNat + 2))) n4
    refine .inl ⟨_, _, q4 _ _ upd_same, upd_same, line_of (by rw [List.length_append, List.length_take, List.length_drop, List.length_singleton]; omega), fun p5 n5 => ?_⟩
    have q5 := same_new (o := .lst (xs.take r.toNat ++ [.ref u] ++ xs.drop (r.toNat + 2))) n5
    have q15 := (q13.trans q4).trans q5
    have n5' := Same.free (q13.trans q4) n5
    have hu : SqT K (upd _ p5 (.lst (xs.take r.toNat ++ [.ref u] ++ xs.drop (r.toNat + 2)))) u [.str (wd b), x1, x2] := SqT.of ((((q2.trans q3).trans q4).trans q5) _ _ upd_same)
    have tn : TAt K (upd _ p5 (.lst (xs.take r.toNat ++ [.ref u] ++ xs.drop (r.toNat + 2)))) (.con b t1 t2) (.ref u) := ⟨u, x1, x2, rfl, hu, hx1.same q15, hx2.same q15⟩
    have m1 := hg t1 (List.mem_of_getElem? et1)
    have m2 := hg t2 (List.mem_of_getElem? et2)
    refine ⟨p5, _, ts.take r.toNat ++ [.con b t1 t2] ++ ts.drop (r.toNat + 2), _, _, _, rfl, b4.trans (Bt.same q15), hd4.new q15, hd4.ne_new n5', upd_same, TsAt.app (TsAt.app ((hts4.same q15).take _) (TsAt.one tn)) ((hts4.same q15).drop _), fun t htm => ?_, ?_, ?_⟩
    · rcases List.mem_append.mp htm with h | h
      · rcases List.mem_append.mp h with h | h
        · exact hg t (List.mem_of_mem_take h)
        · rw [List.mem_singleton.mp h]
          refine ⟨⟨m1.1, m2.1⟩, fun c hc => ?_⟩
          rcases List.mem_append.mp hc with h | h
          · exact m1.2 c h
          · exact m2.2 c h
      · exact hg t (List.mem_of_mem_drop h)
    · rw [List.length_append, List.length_append, List.length_take, List.length_drop, List.length_singleton]
      omega
    · rw [tot_join et1 et2]
      exact ht
  · rintro σ' H1 ⟨P, xs, ts, x, y, z, rfl, b1, hd1, Ps, hP, hts, hg, hl, ht⟩
    have l1 : ts.length = 1 := by omega
    obtain ⟨t, rfl⟩ := List.length_eq_one_iff.mp l1
    obtain ⟨v, ev, hv⟩ := hts.2 0 t rfl
    refine ⟨_, .inl (SqL.of hP), v, atI_nat (j := 0) ev, ?_⟩
    have m := hg t (List.mem_singleton.mpr rfl)
    rw [tot_one] at ht
    exact q H1 v t b1 hd1 hv m.1 m.2 ht
end
section
variable {P : Program} {w : World} {K : PySem.W.Frag} {mg : Str → Option Value} {base : Heap}
variable {t_BOUND t_LETTERS t_LONGEST_NAME : Tok} {a_ALWAYS a_NEVER a_OPPOSITES a_RESERVED a_SIGNS a_BadName a_BadNumber a_BadSign a_Condition a_ElseputError a_TooLarge : Addr}
abbrev lsg : List Str := ["<", ">=", "<=", ">", "==", "!="]
abbrev trn : List Str := [">=", "<", ">", "<=", "!=", "=="]
theorem turn_at : ∀ s ∈ signs, ∃ j : Fin 6, lsg[j.val]? = some s ∧ (∀ m : Fin 6, m.val < j.val → lsg[m.val]? ≠ some s) ∧ trn[j.val]? = some (oppS s) := by decide +kernel
def spOpl (n : Nat) : PySem.W.Frag → Sp := fun K vs H Q _ => ∃ (v : V) (t : Tr), vs = [v] ∧ TAt K H t v ∧ t.depth < n ∧ t.ok ∧ ∀ (H' : Hp) (u : V), Same H H' → TAt K H' (oppT t) u → Q u H'
theorem len_opl {n : Nat} {vs : List V} {H : Hp} {Q : VK} {E : XK} (h : spOpl n K vs H Q E) : vs.length = 1 := by
  obtain ⟨_, _, rfl, _⟩ := h
  rfl
theorem opl_step {n k : Nat} {f : Addr} {fd : FuncData} (F : Fun K "_law_opposite" "_law_opposite" s__law_opposite f fd) (T : Gs K mg t_BOUND t_LETTERS t_LONGEST_NAME a_ALWAYS a_NEVER a_OPPOSITES a_RESERVED a_SIGNS a_BadName a_BadNumber a_BadSign a_Condition a_ElseputError a_TooLarge)
    (c__law_opposite : Cal P w K mg base CX0 k "_law_opposite" f fd ["_law_tree"] (spOpl n K)) (hk : 1 ≤ k) : FnOk P w K mg base CX0 (k + 1) f fd ["_law_tree"] (spOpl (n + 1) K) := by
  refine F.ok sc__law_opposite (fun vs H Q E h => len_opl h) (fun cdv A outer s H vs Q E hr h => ?_)
  obtain ⟨v, t, rfl, ht, hd, hok, q⟩ := h
  refine ⟨_, (pss_cons (ps_if (pt_c (eqK K hr.units) (e_x K (v_ 0) pe_int) pe_str) (pss_one (ps_ret (pe_tup (pa_cons pe_str pa_nil)))) pss_nil) (pss_cons (ps_if (pt_c (eqK K hr.units) (e_x K (v_ 0) pe_int) pe_str) (pss_one (ps_ret (pe_tup (pa_cons pe_str pa_nil)))) pss_nil) (pss_cons (ps_if (pt_c (eqK K hr.units) (e_x K (v_ 0) pe_int) pe_str) (pss_cons (ps_set (i := 2) sc__law_opposite.nd rfl (.inl rfl) (pe_lst (pa_cons pe_str (pa_cons pe_str (pa_cons pe_str (pa_cons pe_str (pa_cons pe_str (pa_cons pe_str pa_nil)))))))) (pss_cons (ps_set (i := 3) sc__law_opposite.nd rfl (.inl rfl) (pe_lst (pa_cons pe_str (pa_cons pe_str (pa_cons pe_str (pa_cons pe_str (pa_cons pe_str (pa_cons pe_str pa_nil)))))))) (pss_one (ps_ret (pe_tup (pa_cons pe_str (pa_cons (e_x K (v_ 0) pe_int) (pa_cons (e_x K (v_ 3) (pe_bm PySem.F.plainAttrs_list PySem.F.slot_list_index PySem.F.type_list_index (mindexK K) (v_ 2) (pa_cons (e_x K (v_ 0) pe_int) pa_nil))) (pa_cons (e_x K (v_ 0) pe_int) pa_nil))))))))) pss_nil) (pss_cons (ps_set (i := 1) sc__law_opposite.nd rfl (.inl rfl) pe_str) (Evl.pss_cut (ps_if (pt_c (eqK K hr.units) (e_x K (v_ 0) pe_int) pe_str) (pss_one (ps_set (i := 1) sc__law_opposite.nd rfl (.inl rfl) pe_str)) pss_nil) (pss_one (ps_ret (pe_tup (pa_cons (v_ 1) (pa_cons (pe_call c__law_opposite.G (hr.mono (by first | decide | omega)) rfl c__law_opposite.m c__law_opposite.kp c__law_opposite.b .nil pass0 (pa_cons (e_x K (v_ 0) pe_int) pa_nil)) (pa_cons (pe_call c__law_opposite.G (hr.mono (by first | decide | omega)) rfl c__law_opposite.m c__law_opposite.kp c__law_opposite.b .nil pass0 (pa_cons (e_x K (v_ 0) pe_int) pa_nil)) pa_nil))))))))))), ?_⟩
  cases t with
  | tt =>
    obtain ⟨a, rfl, ha⟩ := ht
    refine ⟨_, .inr ha, .str "always", rfl, (by show 1 ≤ sizeLine; decide), fun u nu => ?_⟩
    exact q _ _ (same_new nu) ⟨u, rfl, SqT.of upd_same⟩
  | ff =>
    obtain ⟨a, rfl, ha⟩ := ht
    refine ⟨_, .inr ha, .str "never", rfl, _, .inr ha, .str "never", rfl, (by show 1 ≤ sizeLine; decide), fun u nu => ?_⟩
    exact q _ _ (same_new nu) ⟨u, rfl, SqT.of upd_same⟩
  | cmp g s m =>
    obtain ⟨a, rfl, ha⟩ := ht
    obtain ⟨_, hs, _⟩ := hok (g, s, m) (List.mem_singleton.mpr rfl)
    have hs : s ∈ signs := hs
    obtain ⟨⟨j, hj⟩, j1, j2, j3⟩ := turn_at s hs
    have j1 : lsg[j]? = some s := j1
    have j3 : trn[j]? = some (oppS s) := j3
    refine ⟨_, .inr ha, .str "compare", rfl, _, .inr ha, .str "compare", rfl, _, .inr ha, .str "compare", rfl, ?_⟩
    refine ⟨(by show 6 ≤ sizeLine; decide), fun S nS => ?_⟩
    have sS := same_new (o := .lst (lsg.map V.str)) nS
    have hS := upd_same (H := H) (a := S) (o := .lst (lsg.map V.str))
    generalize hH1 : upd H S _ = H1
    replace sS : Same H H1 := by rw [← hH1]; exact sS
    replace hS : H1 S = some (.lst (lsg.map V.str)) := by rw [← hH1]; exact hS
    clear hH1
    refine ⟨(by show 6 ≤ sizeLine; decide), fun N nN => ?_⟩
    generalize hH2 : upd H1 N _ = H2
    have sN : Same H1 H2 := by rw [← hH2]; exact same_new nN
    have hN : H2 N = some (.lst (trn.map V.str)) := by rw [← hH2]; exact upd_same
    clear hH2
    have hS2 := sN _ _ hS
    have sm := sS.trans sN
    have ha2 := SqT.same ha sm
    have i1 : atI [V.str "compare", .str g, .str s, .int m] (1 : Int) = some (.str g) := rfl
    have i2 : atI [V.str "compare", .str g, .str s, .int m] (2 : Int) = some (.str s) := rfl
    have i3 : atI [V.str "compare", .str g, .str s, .int m] (3 : Int) = some (.int m) := rfl
    have en : atI (trn.map V.str) (j : Int) = some (.str (oppS s)) := atI_nat (by rw [List.getElem?_map, j3]; rfl)
    refine ⟨_, .inr ha2, .str g, i1, .inl ⟨rfl, _, SqL.of hS2⟩, _, .inr ha2, .str s, i2, S, _, .str s, j, .str s, rfl, rfl, SqL.of hS2, rfl, flat_strs, by rw [List.getElem?_map, j1]; rfl, ?_, fun m' z' hm' hz' => ?_, _, .inl (SqL.of hN), .str (oppS s), en, _, .inr ha2, .int m, i3, (by show 4 ≤ sizeLine; decide), fun u nu => ?_⟩
    · show (s == s) = true
      exact beq_self_eq_true s
    · rw [List.getElem?_map] at hz'
      obtain ⟨z, ez, rfl⟩ := Option.map_eq_some_iff.mp hz'
      show (z == s) = false
      rw [beq_eq_false_iff_ne]
      intro e
      exact j2 ⟨m', by omega⟩ hm' (e ▸ ez)
    · exact q _ _ (sm.trans (same_new nu)) ⟨u, rfl, SqT.of upd_same⟩
  | con b l r =>
    obtain ⟨a, x, y, rfl, ha, hx, hy⟩ := ht
    have i1 : atI [V.str (wd b), x, y] (1 : Int) = some x := rfl
    have i2 : atI [V.str (wd b), x, y] (2 : Int) = some y := rfl
    have dd : max l.depth r.depth + 1 < n + 1 := hd
    cases b with
    | true =>
      refine ⟨_, .inr ha, .str "and", rfl, _, .inr ha, .str "and", rfl, _, .inr ha, .str "and", rfl, ?_⟩
      refine ⟨fun σ' H' => σ' = [some (.ref a), some (.str "or"), none, none] ∧ H' = H, ?_, ?_⟩
      · exact ⟨_, .inr ha, .str "and", rfl, rfl, rfl⟩
      rintro σ' H' ⟨rfl, rfl⟩
      refine ⟨_, .inr ha, x, i1, x, l, rfl, hx, by omega, hok.l, fun H1 x' s1 hx' => ?_⟩
      refine ⟨_, .inr (SqT.same ha s1), y, i2, y, r, rfl, hy.same s1, by omega, hok.r, fun H2 y' s2 hy' => ?_⟩
      refine ⟨(by show 3 ≤ sizeLine; decide), fun u nu => ?_⟩
      have su := same_new (o := .tup [.str "or", x', y']) nu
      exact q _ _ ((s1.trans s2).trans su) ⟨u, x', y', rfl, SqT.of upd_same, (hx'.same s2).same su, hy'.same su⟩
    | false =>
      refine ⟨_, .inr ha, .str "or", rfl, _, .inr ha, .str "or", rfl, _, .inr ha, .str "or", rfl, ?_⟩
      refine ⟨fun σ' H' => σ' = [some (.ref a), some (.str "and"), none, none] ∧ H' = H, ?_, ?_⟩
      · exact ⟨_, .inr ha, .str "or", rfl, rfl, rfl⟩
      rintro σ' H' ⟨rfl, rfl⟩
      refine ⟨_, .inr ha, x, i1, x, l, rfl, hx, by omega, hok.l, fun H1 x' s1 hx' => ?_⟩
      refine ⟨_, .inr (SqT.same ha s1), y, i2, y, r, rfl, hy.same s1, by omega, hok.r, fun H2 y' s2 hy' => ?_⟩
      refine ⟨(by show 3 ≤ sizeLine; decide), fun u nu => ?_⟩
      have su := same_new (o := .tup [.str "and", x', y']) nu
      exact q _ _ ((s1.trans s2).trans su) ⟨u, x', y', rfl, SqT.of upd_same, (hx'.same s2).same su, hy'.same su⟩
theorem opl_all {f : Addr} {fd : FuncData} (F : Fun K "_law_opposite" "_law_opposite" s__law_opposite f fd) (T : Gs K mg t_BOUND t_LETTERS t_LONGEST_NAME a_ALWAYS a_NEVER a_OPPOSITES a_RESERVED a_SIGNS a_BadName a_BadNumber a_BadSign a_Condition a_ElseputError a_TooLarge)
    (b : Binds K fd ["_law_tree"] []) (kp : PySem.W.keepIn K (.ref f) = true) (m : mg "_law_opposite" = some (.ref f)) : ∀ n : Nat, FnOk P w K mg base CX0 (n + 2) f fd ["_law_tree"] (spOpl n K)
  | 0 => ⟨fun _ _ _ _ h => len_opl h, by
    intro A outer s H args us vs Q E _ _ _ _ h
    obtain ⟨_, _, _, _, h, _⟩ := h
    exact absurd h (Nat.not_lt_zero _)⟩
  | n + 1 => opl_step F T ⟨opl_all F T b kp m n, b, kp, m⟩ (by omega)
def sp__law_opposite : PySem.W.Frag → Sp := spOpl 20
theorem ok__law_opposite {f : Addr} {fd : FuncData} (F : Fun K "_law_opposite" "_law_opposite" s__law_opposite f fd) (T : Gs K mg t_BOUND t_LETTERS t_LONGEST_NAME a_ALWAYS a_NEVER a_OPPOSITES a_RESERVED a_SIGNS a_BadName a_BadNumber a_BadSign a_Condition a_ElseputError a_TooLarge) (b : Binds K fd ["_law_tree"] []) (kp : PySem.W.keepIn K (.ref f) = true) (m : mg "_law_opposite" = some (.ref f)) :
    FnOk P w K mg base CX0 22 f fd ["_law_tree"] (sp__law_opposite K) := opl_all F T b kp m 20
end
section
variable {P : Program} {w : World} {K : PySem.W.Frag} {mg : Str → Option Value} {base : Heap}
variable {t_BOUND t_LETTERS t_LONGEST_NAME : Tok} {a_ALWAYS a_NEVER a_OPPOSITES a_RESERVED a_SIGNS a_BadName a_BadNumber a_BadSign a_Condition a_ElseputError a_TooLarge : Addr}
/-! ### what is due of a joining -/
def headS : Tr → Str
  | .tt => "always"
  | .ff => "never"
  | .cmp _ _ _ => "compare"
  | .con w _ _ => wd w
theorem TAt.head {H : Hp} : ∀ {t : Tr} {v : V}, TAt K H t v → ∃ (a : Addr) (xs : List V), v = .ref a ∧ SqT K H a (.str (headS t) :: xs)
  | .tt, _, ⟨a, e, h⟩ => ⟨a, [], e, h⟩
  | .ff, _, ⟨a, e, h⟩ => ⟨a, [], e, h⟩
  | .cmp f s n, _, ⟨a, e, h⟩ => ⟨a, [.str f, .str s, .int n], e, h⟩
  | .con _ _ _, _, ⟨a, x, y, e, h, _⟩ => ⟨a, [x, y], e, h⟩
theorem head_true {t : Tr} : headS t = "always" ↔ t.is true = true := by
  cases t with
  | tt => exact ⟨fun _ => rfl, fun _ => rfl⟩
  | ff => exact ⟨(fun h => absurd h (by decide +kernel)), (fun h => nomatch h)⟩
  | cmp f s n => exact ⟨(fun h => absurd h (by decide +kernel : ¬ ((Str.ofString "compare" : Str) = "always"))), (fun h => nomatch h)⟩
  | con w l r => exact ⟨(fun h => absurd (show wd w = "always" from h) (by cases w <;> decide +kernel)), (fun h => nomatch h)⟩
theorem head_false {t : Tr} : headS t = "never" ↔ t.is false = true := by
  cases t with
  | tt => exact ⟨(fun h => absurd h (by decide +kernel)), (fun h => nomatch h)⟩
  | ff => exact ⟨fun _ => rfl, fun _ => rfl⟩
  | cmp f s n => exact ⟨(fun h => absurd h (by decide +kernel : ¬ ((Str.ofString "compare" : Str) = "never"))), (fun h => nomatch h)⟩
  | con w l r => exact ⟨(fun h => absurd (show wd w = "never" from h) (by cases w <;> decide +kernel)), (fun h => nomatch h)⟩
def JRes (K : PySem.W.Frag) (H : Hp) (t : Addr) (j : Tr) : Prop := if j.cs.length ≤ 8 then ∃ v, H t = some (.tup [.str "let", v]) ∧ TAt K H j v else H t = some (.tup [.str "refused", .int 8])
theorem jres_let {H : Hp} {t : Addr} {j j' : Tr} {v : V} (e : j = j') (hc : j'.cs.length ≤ 8) (ht : H t = some (.tup [.str "let", v])) (hv : TAt K H j' v) : JRes K H t j := by
  subst e
  unfold JRes
  rw [if_pos hc]
  exact ⟨v, ht, hv⟩
theorem jres_same {H : Hp} {t u : Addr} {j : Tr} (hd : j.depth ≤ 20) (h1 : JRes K H t j) (h2 : JRes K H u j) : SameV K H 24 (.ref t) (.ref u) := by
  unfold JRes at h1 h2
  by_cases hc : j.cs.length ≤ 8
  · rw [if_pos hc] at h1 h2
    obtain ⟨v, e1, k1⟩ := h1
    obtain ⟨v', e2, k2⟩ := h2
    have := same_tree j (m := 21 - j.depth) k1 k2
    rw [show j.depth + (21 - j.depth) + 2 = 23 by omega] at this
    exact same_two (SqT.of e1) (SqT.of e2) this
  · rw [if_neg hc] at h1 h2
    exact same_two (SqT.of h1) (SqT.of h2) (same_int 8)
theorem JRes.same {H H' : Hp} {t : Addr} {j : Tr} (h : JRes K H t j) (s : Same H H') : JRes K H' t j := by
  unfold JRes at *
  split
  · rename_i hc
    rw [if_pos hc] at h
    obtain ⟨v, e1, k1⟩ := h
    exact ⟨v, s _ _ e1, k1.same s⟩
  · rename_i hc
    rw [if_neg hc] at h
    exact s _ _ h
def sp__law_joined_due (K : PySem.W.Frag) : Sp := fun vs H Q _ => ∃ (w : Bool) (x y : V) (l r : Tr), vs = [.str (wd w), x, y] ∧ TAt K H l x ∧ TAt K H r y ∧ l.depth < 20 ∧ r.depth < 20 ∧ l.cs.length ≤ 8 ∧ r.cs.length ≤ 8 ∧ ∀ (H' : Hp) (t : Addr), Same H H' → JRes K H' t (joinT w l r) → Q (.ref t) H'
theorem len__law_joined_due {vs : List V} {H : Hp} {Q : VK} {E : XK} (h : sp__law_joined_due K vs H Q E) : vs.length = 3 := by
  obtain ⟨_, _, _, _, _, rfl, _⟩ := h
  rfl
theorem ok__law_joined_due {f : Addr} {fd : FuncData} {f__law_compared : Addr} {fd__law_compared : FuncData} (F : Fun K "_law_joined_due" "_law_joined_due" s__law_joined_due f fd) (T : Gs K mg t_BOUND t_LETTERS t_LONGEST_NAME a_ALWAYS a_NEVER a_OPPOSITES a_RESERVED a_SIGNS a_BadName a_BadNumber a_BadSign a_Condition a_ElseputError a_TooLarge) (c__law_compared : Cal P w K mg base CX0 22 "_law_compared" f__law_compared fd__law_compared ["_law_tree"] (sp__law_compared K)) : FnOk P w K mg base CX0 23 f fd ["_law_word", "_law_left", "_law_right"] (sp__law_joined_due K) := by
  refine F.ok sc__law_joined_due (fun vs H Q E h => len__law_joined_due h) (fun cdv A outer s H vs Q E hr h => ?_)
  obtain ⟨w, x, y, l, r, rfl, hl, hR, ld, rd, lc, rc, q⟩ := h
  refine ⟨_, (pss_cons (ps_set (i := 3) sc__law_joined_due.nd rfl (.inl rfl) pe_str) (pss_cons (ps_set (i := 4) sc__law_joined_due.nd rfl (.inl rfl) pe_str) (Evl.pss_cut (ps_if (pt_c (eqK K hr.units) (v_ 0) pe_str) (pss_cons (ps_set (i := 3) sc__law_joined_due.nd rfl (.inl rfl) pe_str) (pss_one (ps_set (i := 4) sc__law_joined_due.nd rfl (.inl rfl) pe_str))) pss_nil) (pss_cons (ps_if (PW.pt (pw_or (pt_c (eqK K hr.units) (e_x K (v_ 1) pe_int) (v_ 3)) (pw_or1 (pt_c (eqK K hr.units) (e_x K (v_ 2) pe_int) (v_ 3))))) (pss_one (ps_ret (pe_tup (pa_cons pe_str (pa_cons (pe_tup (pa_cons (v_ 3) pa_nil)) pa_nil))))) pss_nil) (pss_cons (ps_if (pt_c (eqK K hr.units) (e_x K (v_ 1) pe_int) (v_ 4)) (pss_one (ps_ret (pe_tup (pa_cons pe_str (pa_cons (v_ 2) pa_nil))))) pss_nil) (pss_cons (ps_if (pt_c (eqK K hr.units) (e_x K (v_ 2) pe_int) (v_ 4)) (pss_one (ps_ret (pe_tup (pa_cons pe_str (pa_cons (v_ 1) pa_nil))))) pss_nil) (pss_cons (ps_if (pt_c op_gtM (pe_op (addK K) (pe_callB (lenK K) (by rfl) T.z_len PySem.boot_len (pa_cons (pe_call c__law_compared.G (hr.mono (by first | decide | omega)) rfl c__law_compared.m c__law_compared.kp c__law_compared.b .nil pass0 (pa_cons (v_ 1) pa_nil)) pa_nil)) (pe_callB (lenK K) (by rfl) T.z_len PySem.boot_len (pa_cons (pe_call c__law_compared.G (hr.mono (by first | decide | omega)) rfl c__law_compared.m c__law_compared.kp c__law_compared.b .nil pass0 (pa_cons (v_ 2) pa_nil)) pa_nil))) pe_int) (pss_one (ps_ret (pe_tup (pa_cons pe_str (pa_cons pe_int pa_nil))))) pss_nil) (pss_one (ps_ret (pe_tup (pa_cons pe_str (pa_cons (pe_tup (pa_cons (v_ 0) (pa_cons (v_ 1) (pa_cons (v_ 2) pa_nil)))) pa_nil)))))))))))), ?_⟩
  obtain ⟨a, as, rfl, ha⟩ := hl.head
  obtain ⟨b, bs, rfl, hb⟩ := hR.head
  cases w with
  | true =>
    refine ⟨fun σ' H' => σ' = [some (.str (wd true)), some (.ref a), some (.ref b), some (.str "never"), some (.str "always")] ∧ H' = H, ?_, ?_⟩
    · exact ⟨rfl, rfl⟩
    rintro σ' H' ⟨rfl, rfl⟩
    refine ⟨_, .inr ha, .str (headS l), atI_nat (j := 0) rfl, ?_⟩
    refine ite2 (fun e => ?_) (fun e => ?_)
    · have e : l.is false = true := head_false.mp (of_decide_eq_true e)
      refine ⟨(by show 1 ≤ sizeLine; decide), fun u nu => ?_⟩
      have su := same_new (o := .tup [.str "never"]) nu
      refine ⟨(by show 2 ≤ sizeLine; decide), fun t nt => ?_⟩
      have st := same_new (o := .tup [.str "let", .ref u]) nt
      refine q _ t (su.trans st) (jres_let (j' := .ff) (by rw [joinT, if_pos (by rw [show (!true) = false from rfl, e]; rfl)]; rfl) (by decide) upd_same ⟨u, rfl, SqT.of (st _ _ upd_same)⟩)
    have e1 : l.is false = false := Bool.eq_false_iff.mpr fun h => e (decide_eq_true (head_false.mpr h))
    clear e
    refine ⟨_, .inr hb, .str (headS r), atI_nat (j := 0) rfl, ?_⟩
    refine ite2 (fun e => ?_) (fun e => ?_)
    · have e : r.is false = true := head_false.mp (of_decide_eq_true e)
      refine ⟨(by show 1 ≤ sizeLine; decide), fun u nu => ?_⟩
      have su := same_new (o := .tup [.str "never"]) nu
      refine ⟨(by show 2 ≤ sizeLine; decide), fun t nt => ?_⟩
      have st := same_new (o := .tup [.str "let", .ref u]) nt
      refine q _ t (su.trans st) (jres_let (j' := .ff) (by rw [joinT, if_pos (by rw [show (!true) = false from rfl, e, Bool.or_true])]; rfl) (by decide) upd_same ⟨u, rfl, SqT.of (st _ _ upd_same)⟩)
    have e2 : r.is false = false := Bool.eq_false_iff.mpr fun h => e (decide_eq_true (head_false.mpr h))
    clear e
    have j0 : joinT true l r = if l.is true = true then r else if r.is true = true then l else .con true l r := by
      rw [joinT, if_neg (by rw [show (!true) = false from rfl, e1, e2]; decide)]
    refine ⟨_, .inr ha, .str (headS l), atI_nat (j := 0) rfl, ?_⟩
    refine ite2 (fun e => ?_) (fun e => ?_)
    · have e : l.is true = true := head_true.mp (of_decide_eq_true e)
      refine ⟨(by show 2 ≤ sizeLine; decide), fun t nt => ?_⟩
      have st := same_new (o := .tup [.str "let", .ref b]) nt
      exact q _ t st (jres_let (by rw [j0, if_pos e]) rc upd_same (hR.same st))
    have e3 : ¬ l.is true = true := fun h => e (decide_eq_true (head_true.mpr h))
    clear e
    rw [if_neg e3] at j0
    refine ⟨_, .inr hb, .str (headS r), atI_nat (j := 0) rfl, ?_⟩
    refine ite2 (fun e => ?_) (fun e => ?_)
    · have e : r.is true = true := head_true.mp (of_decide_eq_true e)
      refine ⟨(by show 2 ≤ sizeLine; decide), fun t nt => ?_⟩
      have st := same_new (o := .tup [.str "let", .ref a]) nt
      exact q _ t st (jres_let (by rw [j0, if_pos e]) lc upd_same (hl.same st))
    have e4 : ¬ r.is true = true := fun h => e (decide_eq_true (head_true.mpr h))
    clear e
    rw [if_neg e4] at j0
    refine ⟨_, l, rfl, hl, ld, by omega, fun H1 D1 xs s1 n1 h1 p1 => ?_⟩
    refine .inl ⟨_, .inl (SqL.of h1), ?_⟩
    refine ⟨_, r, rfl, hR.same s1, rd, by omega, fun H2 D2 ys s2 n2 h2 p2 => ?_⟩
    refine .inl ⟨_, .inl (SqL.of h2), ?_⟩
    rw [p1.1, p2.1]
    have s12 := s1.trans s2
    refine ite2 (fun e => ?_) (fun e => ?_)
    · have e : (8 : Int) < (l.cs.length : Int) + r.cs.length := of_decide_eq_true e
      refine ⟨(by show 2 ≤ sizeLine; decide), fun t nt => ?_⟩
      refine q _ t (s12.trans (same_new nt)) ?_
      unfold JRes
      rw [j0, if_neg (by show ¬ (l.cs ++ r.cs).length ≤ 8; rw [List.length_append]; omega)]
      exact upd_same
    · have e : ¬ (8 : Int) < (l.cs.length : Int) + r.cs.length := of_decide_eq_false (Bool.eq_false_iff.mpr e)
      refine ⟨(by show 3 ≤ sizeLine; decide), fun u nu => ?_⟩
      have su := same_new (o := .tup [.str (wd true), .ref a, .ref b]) nu
      refine ⟨(by show 2 ≤ sizeLine; decide), fun t nt => ?_⟩
      have st := same_new (o := .tup [.str "let", .ref u]) nt
      have s4 := s12.trans (su.trans st)
      refine q _ t s4 (jres_let j0 (by show (l.cs ++ r.cs).length ≤ 8; rw [List.length_append]; omega) upd_same ⟨u, .ref a, .ref b, rfl, SqT.of (st _ _ upd_same), hl.same s4, hR.same s4⟩)
  | false =>
    refine ⟨fun σ' H' => σ' = [some (.str (wd false)), some (.ref a), some (.ref b), some (.str "always"), some (.str "never")] ∧ H' = H, ?_, ?_⟩
    · exact ⟨rfl, rfl⟩
    rintro σ' H' ⟨rfl, rfl⟩
    refine ⟨_, .inr ha, .str (headS l), atI_nat (j := 0) rfl, ?_⟩
    refine ite2 (fun e => ?_) (fun e => ?_)
    · have e : l.is true = true := head_true.mp (of_decide_eq_true e)
      refine ⟨(by show 1 ≤ sizeLine; decide), fun u nu => ?_⟩
      have su := same_new (o := .tup [.str "always"]) nu
      refine ⟨(by show 2 ≤ sizeLine; decide), fun t nt => ?_⟩
      have st := same_new (o := .tup [.str "let", .ref u]) nt
      refine q _ t (su.trans st) (jres_let (j' := .tt) (by rw [joinT, if_pos (by rw [show (!false) = true from rfl, e]; rfl)]; rfl) (by decide) upd_same ⟨u, rfl, SqT.of (st _ _ upd_same)⟩)
    have e1 : l.is true = false := Bool.eq_false_iff.mpr fun h => e (decide_eq_true (head_true.mpr h))
    clear e
    refine ⟨_, .inr hb, .str (headS r), atI_nat (j := 0) rfl, ?_⟩
    refine ite2 (fun e => ?_) (fun e => ?_)
    · have e : r.is true = true := head_true.mp (of_decide_eq_true e)
      refine ⟨(by show 1 ≤ sizeLine; decide), fun u nu => ?_⟩
      have su := same_new (o := .tup [.str "always"]) nu
      refine ⟨(by show 2 ≤ sizeLine; decide), fun t nt => ?_⟩
      have st := same_new (o := .tup [.str "let", .ref u]) nt
      refine q _ t (su.trans st) (jres_let (j' := .tt) (by rw [joinT, if_pos (by rw [show (!false) = true from rfl, e, Bool.or_true])]; rfl) (by decide) upd_same ⟨u, rfl, SqT.of (st _ _ upd_same)⟩)
    have e2 : r.is true = false := Bool.eq_false_iff.mpr fun h => e (decide_eq_true (head_true.mpr h))
    clear e
    have j0 : joinT false l r = if l.is false = true then r else if r.is false = true then l else .con false l r := by
      rw [joinT, if_neg (by rw [show (!false) = true from rfl, e1, e2]; decide)]
    refine ⟨_, .inr ha, .str (headS l), atI_nat (j := 0) rfl, ?_⟩
    refine ite2 (fun e => ?_) (fun e => ?_)
    · have e : l.is false = true := head_false.mp (of_decide_eq_true e)
      refine ⟨(by show 2 ≤ sizeLine; decide), fun t nt => ?_⟩
      have st := same_new (o := .tup [.str "let", .ref b]) nt
      exact q _ t st (jres_let (by rw [j0, if_pos e]) rc upd_same (hR.same st))
    have e3 : ¬ l.is false = true := fun h => e (decide_eq_true (head_false.mpr h))
    clear e
    rw [if_neg e3] at j0
    refine ⟨_, .inr hb, .str (headS r), atI_nat (j := 0) rfl, ?_⟩
    refine ite2 (fun e => ?_) (fun e => ?_)
    · have e : r.is false = true := head_false.mp (of_decide_eq_true e)
      refine ⟨(by show 2 ≤ sizeLine; decide), fun t nt => ?_⟩
      have st := same_new (o := .tup [.str "let", .ref a]) nt
      exact q _ t st (jres_let (by rw [j0, if_pos e]) lc upd_same (hl.same st))
    have e4 : ¬ r.is false = true := fun h => e (decide_eq_true (head_false.mpr h))
    clear e
    rw [if_neg e4] at j0
    refine ⟨_, l, rfl, hl, ld, by omega, fun H1 D1 xs s1 n1 h1 p1 => ?_⟩
    refine .inl ⟨_, .inl (SqL.of h1), ?_⟩
    refine ⟨_, r, rfl, hR.same s1, rd, by omega, fun H2 D2 ys s2 n2 h2 p2 => ?_⟩
    refine .inl ⟨_, .inl (SqL.of h2), ?_⟩
    rw [p1.1, p2.1]
    have s12 := s1.trans s2
    refine ite2 (fun e => ?_) (fun e => ?_)
    · have e : (8 : Int) < (l.cs.length : Int) + r.cs.length := of_decide_eq_true e
      refine ⟨(by show 2 ≤ sizeLine; decide), fun t nt => ?_⟩
      refine q _ t (s12.trans (same_new nt)) ?_
      unfold JRes
      rw [j0, if_neg (by show ¬ (l.cs ++ r.cs).length ≤ 8; rw [List.length_append]; omega)]
      exact upd_same
    · have e : ¬ (8 : Int) < (l.cs.length : Int) + r.cs.length := of_decide_eq_false (Bool.eq_false_iff.mpr e)
      refine ⟨(by show 3 ≤ sizeLine; decide), fun u nu => ?_⟩
      have su := same_new (o := .tup [.str (wd false), .ref a, .ref b]) nu
      refine ⟨(by show 2 ≤ sizeLine; decide), fun t nt => ?_⟩
      have st := same_new (o := .tup [.str "let", .ref u]) nt
      have s4 := s12.trans (su.trans st)
      refine q _ t s4 (jres_let j0 (by show (l.cs ++ r.cs).length ≤ 8; rw [List.length_append]; omega) upd_same ⟨u, .ref a, .ref b, rfl, SqT.of (st _ _ upd_same), hl.same s4, hR.same s4⟩)
end
section
variable {P : Program} {w : World} {K : PySem.W.Frag} {mg : Str → Option Value} {base : Heap}
variable {t_BOUND t_LETTERS t_LONGEST_NAME : Tok} {a_ALWAYS a_NEVER a_OPPOSITES a_RESERVED a_SIGNS a_BadName a_BadNumber a_BadSign a_Condition a_ElseputError a_TooLarge : Addr}
def sp__law_do (K : PySem.W.Frag) : Sp := fun vs H Q _ => ∃ (w : Bool) (a b : Addr) (l r : Tr), vs = [.str (wd w), .ref a, .ref b] ∧ CnAt K H a l ∧ CnAt K H b r ∧ Gd l ∧ Gd r ∧ ∀ (H' : Hp) (t : Addr), Same H H' → JRes K H' t (joinT w l r) → Q (.ref t) H'
theorem len__law_do {vs : List V} {H : Hp} {Q : VK} {E : XK} (h : sp__law_do K vs H Q E) : vs.length = 3 := by
  obtain ⟨_, _, _, _, _, rfl, _⟩ := h
  rfl
theorem ok__law_do {f : Addr} {fd : FuncData} {f_Condition___and__ : Addr} {fd_Condition___and__ : FuncData} {f_Condition___or__ : Addr} {fd_Condition___or__ : FuncData} (F : Fun K "_law_do" "_law_do" s__law_do f fd) (T : Gs K mg t_BOUND t_LETTERS t_LONGEST_NAME a_ALWAYS a_NEVER a_OPPOSITES a_RESERVED a_SIGNS a_BadName a_BadNumber a_BadSign a_Condition a_ElseputError a_TooLarge) (c_Condition___and__ : CalO P w K mg base (L2.CX P w) 26 a_Condition .BitAnd f_Condition___and__ fd_Condition___and__ ["self", "other"] (sp_Condition___and__ K)) (c_Condition___or__ : CalO P w K mg base (L2.CX P w) 26 a_Condition .BitOr f_Condition___or__ fd_Condition___or__ ["self", "other"] (sp_Condition___or__ K)) : FnOk P w K mg base CX0 27 f fd ["_law_word", "_law_left", "_law_right"] (sp__law_do K) := by
  refine F.ok sc__law_do (fun vs H Q E h => len__law_do h) (fun cdv A outer s H vs Q E hr h => ?_)
  obtain ⟨w, a, b, l, r, rfl, hA, hB, gl, gr, q⟩ := h
  obtain ⟨C, dx, u, x, ss, hC, ha, _⟩ := id hA
  cases hC.symm.trans T.n_Condition
  obtain ⟨C, dy, u2, y, ss2, hC, hb, _⟩ := id hB
  cases hC.symm.trans T.n_Condition
  refine ⟨_, (pss_cons (ps_try_as (i := 3) rfl rfl sc__law_do.nd rfl rfl ⟨rfl, by decide +kernel, .inl T.g_ElseputError⟩ takes0 (fun W pn xe tk po => (pss_cons (ps_if (pt_c (eqK K hr.units) (v_ 0) pe_str) (pss_one (ps_ret (pe_tup (pa_cons pe_str (pa_cons (e_f K (pe_bopS c_Condition___and__.op c_Condition___and__.G (hr.mono (by first | decide | omega)) c_Condition___and__.b (fun σ => passAt tk σ) (v_ 1) (v_ 2))) pa_nil))))) pss_nil) (pss_one (ps_ret (pe_tup (pa_cons pe_str (pa_cons (e_f K (pe_bopS c_Condition___or__.op c_Condition___or__.G (hr.mono (by first | decide | omega)) c_Condition___or__.b (fun σ => passAt tk σ) (v_ 1) (v_ 2))) pa_nil))))))) (fun ea oe ecls ed epn hz hf => (pss_one (ps_if (PW.pt (pw_and (pt_t K (pe_callB (call_isX hz hf) (by rfl) T.z_isinstance (by decide +kernel) (pa_cons (v_ 3) (pa_cons (pe_glob (v := .ref a_TooLarge) rfl T.g_TooLarge rfl) pa_nil)))) (pw_and (pt_t K (pe_callB (call_isX hz hf) (by rfl) T.z_isinstance (by decide +kernel) (pa_cons (v_ 3) (pa_cons (pe_bltn (v := .ty "ValueError") (u := .type "ValueError") (by rfl) T.z_ValueError (by decide +kernel) rfl) pa_nil)))) (pw_and1 (pt_not (pt_t K (pe_callB (call_isX hz hf) (by rfl) T.z_isinstance (by decide +kernel) (pa_cons (v_ 3) (pa_cons (pe_glob (v := .ref a_BadNumber) rfl T.g_BadNumber rfl) pa_nil))))))))) (pss_one (ps_ret (pe_tup (pa_cons pe_str (pa_cons (pe_xf T.x_TooLarge.xf (T.x_TooLarge.no _ (by decide)) hz hf (v_ 3)) pa_nil))))) pss_nil)))) (pss_one (ps_ret (pe_tup (pa_cons pe_str pa_nil))))), ?_⟩
  cases w with
  | true =>
    refine ⟨a, b, dx, _, dy, _, rfl, rfl, ha, hb, a, b, l, r, rfl, hA, hB, gl, gr, ?_⟩
    unfold JRes at q
    unfold JoinO
    split
    · rename_i hl
      simp only [if_pos hl] at q
      intro H1 c s1 nc hc
      obtain ⟨C3, dz, u3, z, ss3, hC3, hz, ht, _⟩ := id hc
      cases hC3.symm.trans T.n_Condition
      refine ⟨c, a_Condition, dz, _, _, rfl, hz, T.cl_Condition, T.na_Condition_tree, rfl, ?_⟩
      refine ⟨(by show 2 ≤ sizeLine; decide), fun t nt => ?_⟩
      have s2 := same_new (o := .tup [.str "let", z]) nt
      exact q _ t (s1.trans s2) ⟨z, upd_same, ht.same s2⟩
    · rename_i hl
      simp only [if_neg hl] at q
      intro C3 d H' hC3 sm nd hd
      cases hC3.symm.trans T.n_TooLarge
      refine ⟨true, T.m_TooLarge_ElseputError, fun _ e ne => ?_, fun h => nomatch h⟩
      refine ⟨_, d, _, _, _, true, rfl, rfl, rfl, hd, T.x_TooLarge.is, fun u h => h, T.k_TooLarge_TooLarge, ?_⟩
      refine ⟨_, d, _, _, _, true, rfl, rfl, rfl, hd, T.x_TooLarge.is, fun u h => h, T.k_TooLarge_ValueError, ?_⟩
      refine ⟨_, d, _, _, _, false, rfl, rfl, rfl, hd, T.x_TooLarge.is, fun u h => h, T.k_TooLarge_BadNumber, ?_⟩
      refine ⟨rfl, rfl, d, _, _, rfl, hd, rfl, (by show 2 ≤ sizeLine; decide), fun t nt => ?_⟩
      exact q _ t (sm.trans (same_new nt)) upd_same
  | false =>
    refine ⟨a, b, dx, _, dy, _, rfl, rfl, ha, hb, a, b, l, r, rfl, hA, hB, gl, gr, ?_⟩
    unfold JRes at q
    unfold JoinO
    split
    · rename_i hl
      simp only [if_pos hl] at q
      intro H1 c s1 nc hc
      obtain ⟨C3, dz, u3, z, ss3, hC3, hz, ht, _⟩ := id hc
      cases hC3.symm.trans T.n_Condition
      refine ⟨c, a_Condition, dz, _, _, rfl, hz, T.cl_Condition, T.na_Condition_tree, rfl, ?_⟩
      refine ⟨(by show 2 ≤ sizeLine; decide), fun t nt => ?_⟩
      have s2 := same_new (o := .tup [.str "let", z]) nt
      exact q _ t (s1.trans s2) ⟨z, upd_same, ht.same s2⟩
    · rename_i hl
      simp only [if_neg hl] at q
      intro C3 d H' hC3 sm nd hd
      cases hC3.symm.trans T.n_TooLarge
      refine ⟨true, T.m_TooLarge_ElseputError, fun _ e ne => ?_, fun h => nomatch h⟩
      refine ⟨_, d, _, _, _, true, rfl, rfl, rfl, hd, T.x_TooLarge.is, fun u h => h, T.k_TooLarge_TooLarge, ?_⟩
      refine ⟨_, d, _, _, _, true, rfl, rfl, rfl, hd, T.x_TooLarge.is, fun u h => h, T.k_TooLarge_ValueError, ?_⟩
      refine ⟨_, d, _, _, _, false, rfl, rfl, rfl, hd, T.x_TooLarge.is, fun u h => h, T.k_TooLarge_BadNumber, ?_⟩
      refine ⟨rfl, rfl, d, _, _, rfl, hd, rfl, (by show 2 ≤ sizeLine; decide), fun t nt => ?_⟩
      exact q _ t (sm.trans (same_new nt)) upd_same
end
section
variable {P : Program} {w : World} {K : PySem.W.Frag} {mg : Str → Option Value} {base : Heap}
variable {t_BOUND t_LETTERS t_LONGEST_NAME : Tok} {a_ALWAYS a_NEVER a_OPPOSITES a_RESERVED a_SIGNS a_BadName a_BadNumber a_BadSign a_Condition a_ElseputError a_TooLarge : Addr}
theorem same_tr {H : Hp} {t : Tr} (hd : t.depth ≤ 9) {x y : V} (h1 : TAt K H t x) (h2 : TAt K H t y) : SameV K H 24 x y := by
  have := same_tree t (m := 22 - t.depth) h1 h2
  rwa [show t.depth + (22 - t.depth) + 2 = 24 by omega] at this
theorem fof_eq {t : Tr} {ss us : List Str} (h : FOf ss t.flds) (hp : PwS us) (hm : ∀ k, k ∈ us ↔ k ∈ t.flds) : ss = us := pw_uniq (pw_of_sorted h.1 h.2.1) hp fun k => (h.2.2 k).trans (hm k).symm
def sp__law_is (K : PySem.W.Frag) : Sp := fun vs H Q _ => ∃ (a : Addr) (v : V) (t : Tr), vs = [.ref a, v] ∧ CnAt K H a t ∧ TAt K H t v ∧ Gd t ∧ ∀ H' : Hp, Same H H' → Q (.bl true) H'
theorem len__law_is {vs : List V} {H : Hp} {Q : VK} {E : XK} (h : sp__law_is K vs H Q E) : vs.length = 2 := by
  obtain ⟨_, _, _, rfl, _⟩ := h
  rfl
theorem ok__law_is {f : Addr} {fd : FuncData} {f__law_same : Addr} {fd__law_same : FuncData} {f__law_field_names : Addr} {fd__law_field_names : FuncData} {f__law_opposite : Addr} {fd__law_opposite : FuncData} {f__law_compared : Addr} {fd__law_compared : FuncData} {f_Condition_fields : Addr} {fd_Condition_fields : FuncData} {p_Condition_fields : Addr} {f_Condition_size : Addr} {fd_Condition_size : FuncData} {p_Condition_size : Addr} {f_Condition___invert__ : Addr} {fd_Condition___invert__ : FuncData} (F : Fun K "_law_is" "_law_is" s__law_is f fd) (T : Gs K mg t_BOUND t_LETTERS t_LONGEST_NAME a_ALWAYS a_NEVER a_OPPOSITES a_RESERVED a_SIGNS a_BadName a_BadNumber a_BadSign a_Condition a_ElseputError a_TooLarge) (c__law_same : Cal P w K mg base CX0 26 "_law_same" f__law_same fd__law_same ["_law_actual", "_law_due"] (sp__law_same K)) (c__law_field_names : Cal P w K mg base CX0 23 "_law_field_names" f__law_field_names fd__law_field_names ["_law_tree"] (sp__law_field_names K)) (c__law_opposite : Cal P w K mg base CX0 22 "_law_opposite" f__law_opposite fd__law_opposite ["_law_tree"] (sp__law_opposite K)) (c__law_compared : Cal P w K mg base CX0 22 "_law_compared" f__law_compared fd__law_compared ["_law_tree"] (sp__law_compared K)) (c_Condition_fields : CalP P w K mg base CX0 1 a_Condition p_Condition_fields "fields" f_Condition_fields fd_Condition_fields ["self"] (sp_Condition_fields K)) (c_Condition_size : CalP P w K mg base CX0 23 a_Condition p_Condition_size "size" f_Condition_size fd_Condition_size ["self"] (sp_Condition_size K)) (c_Condition___invert__ : CalInv P w K mg base CX0 25 a_Condition f_Condition___invert__ fd_Condition___invert__ ["self"] (sp_Condition___invert__ K)) : FnOk P w K mg base CX0 30 f fd ["_law_made", "_law_tree"] (sp__law_is K) := by
  refine F.ok sc__law_is (fun vs H Q E h => len__law_is h) (fun cdv A outer s H vs Q E hr h => ?_)
  obtain ⟨a, v, t, rfl, hA, ht, g, q⟩ := h
  have g1 := g.dp
  have g2 := g.cs
  obtain ⟨C, dx, u, x, ss, hC, ha, hx, hu, hf, hl⟩ := id hA
  cases hC.symm.trans T.n_Condition
  refine ⟨_, (pss_cons (ps_if (PW.pt (pw_or (pt_not (pt_t K (pe_call c__law_same.G (hr.mono (by first | decide | omega)) rfl c__law_same.m c__law_same.kp c__law_same.b .nil pass0 (pa_cons (e_f K (v_ 0)) (pa_cons (v_ 1) pa_nil))))) (pw_or1 (pt_not (pt_t K (pe_call c__law_same.G (hr.mono (by first | decide | omega)) rfl c__law_same.m c__law_same.kp c__law_same.b .nil pass0 (pa_cons (pe_prop (v_ 0) c_Condition_size.cl c_Condition_size.pr c_Condition_size.G (hr.mono (by first | decide | omega)) c_Condition_size.b .nil pass0 (by rfl)) (pa_cons (pe_callB (lenK K) (by rfl) T.z_len PySem.boot_len (pa_cons (pe_call c__law_compared.G (hr.mono (by first | decide | omega)) rfl c__law_compared.m c__law_compared.kp c__law_compared.b .nil pass0 (pa_cons (v_ 1) pa_nil)) pa_nil)) pa_nil)))))))) (pss_one (ps_ret pe_bl)) pss_nil) (pss_cons (ps_set (i := 2) sc__law_is.nd rfl (.inl rfl) (pe_un (un_own c_Condition___invert__.iv c_Condition___invert__.G (hr.mono (by first | decide | omega)) c_Condition___invert__.b pass0) (v_ 0))) (pss_cons (ps_if (PW.pt (pw_or (pt_not (pt_t K (pe_call c__law_same.G (hr.mono (by first | decide | omega)) rfl c__law_same.m c__law_same.kp c__law_same.b .nil pass0 (pa_cons (e_f K (v_ 2)) (pa_cons (pe_call c__law_opposite.G (hr.mono (by first | decide | omega)) rfl c__law_opposite.m c__law_opposite.kp c__law_opposite.b .nil pass0 (pa_cons (v_ 1) pa_nil)) pa_nil))))) (pw_or1 (pt_not (pt_t K (pe_call c__law_same.G (hr.mono (by first | decide | omega)) rfl c__law_same.m c__law_same.kp c__law_same.b .nil pass0 (pa_cons (e_f K (pe_un (un_own c_Condition___invert__.iv c_Condition___invert__.G (hr.mono (by first | decide | omega)) c_Condition___invert__.b pass0) (v_ 2))) (pa_cons (v_ 1) pa_nil)))))))) (pss_one (ps_ret pe_bl)) pss_nil) (pss_one (ps_ret (pe_andM (pe_call c__law_same.G (hr.mono (by first | decide | omega)) rfl c__law_same.m c__law_same.kp c__law_same.b .nil pass0 (pa_cons (pe_prop (v_ 0) c_Condition_fields.cl c_Condition_fields.pr c_Condition_fields.G (hr.mono (by first | decide | omega)) c_Condition_fields.b .nil pass0 (by rfl)) (pa_cons (pe_call c__law_field_names.G (hr.mono (by first | decide | omega)) rfl c__law_field_names.m c__law_field_names.kp c__law_field_names.b .nil pass0 (pa_cons (v_ 1) pa_nil)) pa_nil))) (pe_one (pe_call c__law_same.G (hr.mono (by first | decide | omega)) rfl c__law_same.m c__law_same.kp c__law_same.b .nil pass0 (pa_cons (pe_prop (v_ 2) c_Condition_fields.cl c_Condition_fields.pr c_Condition_fields.G (hr.mono (by first | decide | omega)) c_Condition_fields.b .nil pass0 (by rfl)) (pa_cons (pe_call c__law_field_names.G (hr.mono (by first | decide | omega)) rfl c__law_field_names.m c__law_field_names.kp c__law_field_names.b .nil pass0 (pa_cons (v_ 1) pa_nil)) pa_nil)))))))))), ?_⟩
  refine ⟨a, a_Condition, dx, _, _, rfl, ha, T.cl_Condition, T.na_Condition_tree, rfl, _, _, rfl, same_tr g1 hx ht, ?_⟩
  refine ite2 (fun e => nomatch e) (fun _ => ?_)
  refine ⟨a, dx, _, rfl, ha, a, t, rfl, hA, by omega, by omega, fun H1 s1 => ?_⟩
  refine ⟨v, t, rfl, ht.same s1, by omega, by omega, fun H2 D ps s2 nD hD hps => ?_⟩
  refine .inl ⟨_, .inl (SqL.of hD), ?_⟩
  rw [hps.1]
  refine ⟨_, _, rfl, same_int _, ?_⟩
  refine ite2 (fun e => nomatch e) (fun _ => ?_)
  have s12 := s1.trans s2
  refine ⟨a, dx, _, rfl, s12 _ _ ha, a, t, rfl, hA.same s12, g, fun H3 c s3 nc hc => ?_⟩
  have s13 := s12.trans s3
  obtain ⟨C, dy, u2, y, ss2, hC, hy, hty, hu2, hf2, hl2⟩ := id hc
  cases hC.symm.trans T.n_Condition
  have go := oppT_gd g
  have go1 := go.dp
  refine ⟨c, a_Condition, dy, _, _, rfl, hy, T.cl_Condition, T.na_Condition_tree, rfl, ?_⟩
  refine ⟨v, t, rfl, ht.same s13, by omega, g.ok, fun H4 o s4 ho => ?_⟩
  refine ⟨_, _, rfl, same_tr go1 (hty.same s4) ho, ?_⟩
  refine ite2 (fun e => nomatch e) (fun _ => ?_)
  refine ⟨c, dy, _, rfl, s4 _ _ hy, c, oppT t, rfl, hc.same s4, go, fun H5 e s5 ne he => ?_⟩
  rw [oppT_opp g.ok] at he
  obtain ⟨C, dz, u3, z, ss3, hC, hz, htz, _⟩ := id he
  cases hC.symm.trans T.n_Condition
  have s15 := (s13.trans s4).trans s5
  refine ⟨e, a_Condition, dz, _, _, rfl, hz, T.cl_Condition, T.na_Condition_tree, rfl, _, _, rfl, same_tr g1 htz (ht.same s15), ?_⟩
  refine ite2 (fun e => nomatch e) (fun _ => ?_)
  refine ⟨a, dx, _, rfl, s15 _ _ ha, a, t, rfl, hA.same s15, fun u4 s4' hu4 hf4 hl4 => ?_⟩
  refine ⟨v, t, rfl, ht.same s15, by omega, by omega, fun H6 u5 us s6 hu5 pw mm => ?_⟩
  have es := fof_eq hf4 pw mm
  subst es
  refine ⟨_, _, rfl, same_strs (SqT.of (s6 _ _ hu4)) (SqT.of hu5) (by omega), ?_⟩
  have s46 := (s4.trans s5).trans s6
  refine ⟨c, dy, _, rfl, s46 _ _ hy, c, oppT t, rfl, hc.same s46, fun u7 ss7 hu7 hf7 hl7 => ?_⟩
  have s16 := s15.trans s6
  refine ⟨v, t, rfl, ht.same s16, by omega, by omega, fun H8 u9 us9 s8 hu9 pw9 mm9 => ?_⟩
  rw [show (oppT t).flds = t.flds from oppT_flds t] at hf7
  have es := fof_eq hf7 pw9 mm9
  subst es
  refine ⟨_, _, rfl, same_strs (SqT.of (s8 _ _ hu7)) (SqT.of hu9) (by omega), ?_⟩
  exact q _ (s16.trans s8)
end
section
variable {P : Program} {w : World} {K : PySem.W.Frag} {mg : Str → Option Value} {base : Heap}
variable {t_BOUND t_LETTERS t_LONGEST_NAME : Tok} {a_ALWAYS a_NEVER a_OPPOSITES a_RESERVED a_SIGNS a_BadName a_BadNumber a_BadSign a_Condition a_ElseputError a_TooLarge : Addr}
/-! ### the law -/
structure Tg (t : Tr) : Prop where
  g : Gd t
  c : t.cs.length ≤ 8
  p : t.pure ∨ t = .tt ∨ t = .ff
theorem tg_pure {t : Tr} (h : t.pure) (ho : t.ok) (hc : t.cs.length ≤ 8) : Tg t := ⟨⟨ho, by have := pure_depth h; omega, by omega⟩, hc, .inl h⟩
theorem tg_tt : Tg .tt := ⟨⟨(fun _ h => nomatch h), by decide, by decide⟩, by decide, .inr (.inl rfl)⟩
theorem tg_ff : Tg .ff := ⟨⟨(fun _ h => nomatch h), by decide, by decide⟩, by decide, .inr (.inr rfl)⟩
/-- conditions made of trees -/
def MsAt (K : PySem.W.Frag) (H : Hp) (ms : List V) (ts : List Tr) : Prop := ms.length = ts.length ∧ ∀ (i : Nat) (t : Tr), ts[i]? = some t → ∃ a : Addr, ms[i]? = some (V.ref a) ∧ CnAt K H a t
theorem MsAt.same {K : PySem.W.Frag} {H H' : Hp} {xs : List V} {ts : List Tr} (h : MsAt K H xs ts) (s : Same H H') : MsAt K H' xs ts := ⟨h.1, fun i t ht => by
  obtain ⟨v, e, q⟩ := h.2 i t ht
  exact ⟨v, e, q.same s⟩⟩
theorem MsAt.bt {K : PySem.W.Frag} {H H' : Hp} {st : Addr} {xs : List V} {ts : List Tr} (h : MsAt K H xs ts) (hs : ∃ l, H st = some (.lst l)) (s : Bt st H H') : MsAt K H' xs ts := ⟨h.1, fun i t ht => by
  obtain ⟨v, e, q⟩ := h.2 i t ht
  exact ⟨v, e, q.bt hs s⟩⟩
theorem MsAt.snoc {K : PySem.W.Frag} {H : Hp} {xs : List V} {ts : List Tr} {a : Addr} {t : Tr} (h : MsAt K H xs ts) (k : CnAt K H a t) : MsAt K H (xs ++ [.ref a]) (ts ++ [t]) := ⟨by rw [List.length_append, List.length_append, h.1]; rfl, fun i c hc => by
  by_cases e : i < ts.length
  · rw [List.getElem?_append_left e] at hc
    rw [List.getElem?_append_left (by rw [h.1]; exact e)]
    exact h.2 i c hc
  · rw [List.getElem?_append_right (by omega)] at hc
    rw [List.getElem?_append_right (by rw [h.1]; omega), h.1]
    match i - ts.length, hc with
    | 0, hc => cases hc; exact ⟨a, rfl, k⟩⟩
theorem cutV_slice (xs : List V) {k : Int} (h : 0 ≤ k) : cutV xs none (some k) = xs.take k.toNat := cutV_take xs h
def spLaw (K : PySem.W.Frag) : Sp := fun vs H Q _ => ∃ (a : Addr) (ns : List Int), vs = [.ref a] ∧ SqL K H a (ns.map V.int) ∧ ns.length ≤ 63 ∧ ∀ H', Q (.bl true) H'
abbrev sp_law := spLaw
theorem len_law {vs : List V} {H : Hp} {Q : VK} {E : XK} (h : sp_law K vs H Q E) : vs.length = 1 := by
  obtain ⟨_, _, rfl, _⟩ := h
  rfl
/-- a slice of leaves, grown -/
theorem gr_take {ts : List Tr} (h : Gr ts) (k : Nat) : Gr (ts.take k) := fun t ht => h t (List.mem_of_mem_take ht)
theorem one_take {ts : List Tr} (h : ∀ t ∈ ts, t.cs.length = 1) (k : Nat) : ∀ t ∈ ts.take k, t.cs.length = 1 := fun t ht => h t (List.mem_of_mem_take ht)
/-- the law's state while the trees are made -/
structure LS (K : PySem.W.Frag) (H : Hp) (st scr D T0 : Addr) (xs : List V) (ts : List Tr) (ys : List V) (us : List Tr) : Prop where
  hd : DrAt H st scr
  Ds : D ≠ st
  Ts : T0 ≠ st
  Tc : T0 ≠ scr
  DT : D ≠ T0
  hD : H D = some (.lst xs)
  ht : TsAt K H xs ts
  hT : H T0 = some (.lst ys)
  hu : TsAt K H ys us
theorem LS.bt {K : PySem.W.Frag} {H H' : Hp} {st scr D T0 : Addr} {xs ys : List V} {ts us : List Tr} (S : LS K H st scr D T0 xs ts ys us) (b : Bt st H H') (hd : DrAt H' st scr) : LS K H' st scr D T0 xs ts ys us :=
  ⟨hd, S.Ds, S.Ts, S.Tc, S.DT, b _ _ S.Ds S.hD, S.ht.bt S.hd.lst b, b _ _ S.Ts S.hT, S.hu.bt S.hd.lst b⟩
theorem LS.same {K : PySem.W.Frag} {H H' : Hp} {st scr D T0 : Addr} {xs ys : List V} {ts us : List Tr} (S : LS K H st scr D T0 xs ts ys us) (s : Same H H') : LS K H' st scr D T0 xs ts ys us := S.bt (Bt.same s) (S.hd.new s)
theorem LS.app {K : PySem.W.Frag} {H : Hp} {st scr D T0 : Addr} {xs ys : List V} {ts us : List Tr} {v : V} {t : Tr} (S : LS K H st scr D T0 xs ts ys us) (hv : TAt K H t v) : LS K (upd H T0 (.lst (ys ++ [v]))) st scr D T0 xs ts (ys ++ [v]) (us ++ [t]) :=
  have b : Bt T0 H (upd H T0 (.lst (ys ++ [v]))) := Bt.st
  ⟨S.hd.at S.Ts S.Tc, S.Ds, S.Ts, S.Tc, S.DT, b _ _ S.DT S.hD, S.ht.bt ⟨_, S.hT⟩ b, upd_same, (S.hu.bt ⟨_, S.hT⟩ b).app (TsAt.one (hv.bt (NT.lst ⟨_, S.hT⟩) b))⟩
theorem tg_app {us : List Tr} {t : Tr} (h : ∀ x ∈ us, Tg x) (k : Tg t) : ∀ x ∈ us ++ [t], Tg x := fun x hx => by
  rcases List.mem_append.mp hx with e | e
  · exact h x e
  · rw [List.mem_singleton.mp e]; exact k
end
section
variable {P : Program} {w : World} {K : PySem.W.Frag} {mg : Str → Option Value} {base : Heap}
variable {t_BOUND t_LETTERS t_LONGEST_NAME : Tok} {a_ALWAYS a_NEVER a_OPPOSITES a_RESERVED a_SIGNS a_BadName a_BadNumber a_BadSign a_Condition a_ElseputError a_TooLarge : Addr}
theorem ok_law {f : Addr} {fd : FuncData} {f__law_state : Addr} {fd__law_state : FuncData} {f__law_names : Addr} {fd__law_names : FuncData} {f__law_leaves : Addr} {fd__law_leaves : FuncData} {f__law_same : Addr} {fd__law_same : FuncData} {f__law_draw : Addr} {fd__law_draw : FuncData} {f__law_grown : Addr} {fd__law_grown : FuncData} {f__law_condition : Addr} {fd__law_condition : FuncData} {f__law_is : Addr} {fd__law_is : FuncData} {f__law_do : Addr} {fd__law_do : FuncData} {f__law_joined_due : Addr} {fd__law_joined_due : FuncData} (F : Fun K "law" "law" s_law f fd) (T : Gs K mg t_BOUND t_LETTERS t_LONGEST_NAME a_ALWAYS a_NEVER a_OPPOSITES a_RESERVED a_SIGNS a_BadName a_BadNumber a_BadSign a_Condition a_ElseputError a_TooLarge) (c__law_state : Cal P w K mg base CX0 1 "_law_state" f__law_state fd__law_state ["_law_script"] (sp__law_state K)) (c__law_names : Cal P w K mg base CX0 2 "_law_names" f__law_names fd__law_names ["_law_state_here", "_law_many"] (sp__law_names K)) (c__law_leaves : Cal P w K mg base CX0 4 "_law_leaves" f__law_leaves fd__law_leaves ["_law_state_here", "_law_fields", "_law_many"] (sp__law_leaves K)) (c__law_same : Cal P w K mg base CX0 26 "_law_same" f__law_same fd__law_same ["_law_actual", "_law_due"] (sp__law_same K)) (c__law_draw : Cal P w K mg base CX0 1 "_law_draw" f__law_draw fd__law_draw ["_law_state_here", "_law_many"] (sp__law_draw K)) (c__law_grown : Cal P w K mg base CX0 3 "_law_grown" f__law_grown fd__law_grown ["_law_state_here", "_law_leaves_here"] (sp__law_grown K)) (c__law_condition : Cal P w K mg base CX0 48 "_law_condition" f__law_condition fd__law_condition ["_law_tree"] (sp__law_condition K)) (c__law_is : Cal P w K mg base CX0 30 "_law_is" f__law_is fd__law_is ["_law_made", "_law_tree"] (sp__law_is K)) (c__law_do : Cal P w K mg base CX0 27 "_law_do" f__law_do fd__law_do ["_law_word", "_law_left", "_law_right"] (sp__law_do K)) (c__law_joined_due : Cal P w K mg base CX0 23 "_law_joined_due" f__law_joined_due fd__law_joined_due ["_law_word", "_law_left", "_law_right"] (sp__law_joined_due K)) : FnOk P w K mg base CX0 60 f fd ["_law_script"] (sp_law K) := by
  refine F.ok sc_law (fun vs H Q E h => len_law h) (fun cdv A outer s H vs Q E hr h => ?_)
  obtain ⟨s0, ns0, rfl, hS, hl, q⟩ := h
  refine ⟨_, (pss_cons (ps_set (i := 1) sc_law.nd rfl (.inl rfl) (pe_call c__law_state.G (hr.mono (by first | decide | omega)) rfl c__law_state.m c__law_state.kp c__law_state.b .nil pass0 (pa_cons (v_ 0) pa_nil))) (pss_cons (ps_set (i := 2) sc_law.nd rfl (.inl rfl) (pe_call c__law_names.G (hr.mono (by first | decide | omega)) rfl c__law_names.m c__law_names.kp c__law_names.b .nil pass0 (pa_cons (v_ 1) (pa_cons pe_int pa_nil)))) (pss_cons (ps_set (i := 3) sc_law.nd rfl (.inl rfl) (pe_op op_subM pe_int (pe_call c__law_draw.G (hr.mono (by first | decide | omega)) rfl c__law_draw.m c__law_draw.kp c__law_draw.b .nil pass0 (pa_cons (v_ 1) (pa_cons pe_int pa_nil))))) (pss_cons (ps_set (i := 4) sc_law.nd rfl (.inl rfl) (pe_call c__law_leaves.G (hr.mono (by first | decide | omega)) rfl c__law_leaves.m c__law_leaves.kp c__law_leaves.b .nil pass0 (pa_cons (v_ 1) (pa_cons (v_ 2) (pa_cons pe_int pa_nil))))) (pss_cons (ps_set (i := 5) sc_law.nd rfl (.inl rfl) (pe_lst (pa_cons (pe_call c__law_grown.G (hr.mono (by first | decide | omega)) rfl c__law_grown.m c__law_grown.kp c__law_grown.b .nil pass0 (pa_cons (v_ 1) (pa_cons (pe_call c__law_leaves.G (hr.mono (by first | decide | omega)) rfl c__law_leaves.m c__law_leaves.kp c__law_leaves.b .nil pass0 (pa_cons (v_ 1) (pa_cons (v_ 2) (pa_cons (v_ 3) pa_nil)))) pa_nil))) (pa_cons (pe_tup (pa_cons pe_str pa_nil)) (pa_cons (pe_tup (pa_cons pe_str pa_nil)) pa_nil))))) (pss_cons (ps_expr (pe_bm PySem.F.plainAttrs_list PySem.F.slot_list_append PySem.F.type_list_append mt_append (v_ 5) (pa_cons (pe_call c__law_grown.G (hr.mono (by first | decide | omega)) rfl c__law_grown.m c__law_grown.kp c__law_grown.b .nil pass0 (pa_cons (v_ 1) (pa_cons (pe_slice (slK K) (v_ 4) po_none (po_some (pe_op (addK K) pe_int (pe_call c__law_draw.G (hr.mono (by first | decide | omega)) rfl c__law_draw.m c__law_draw.kp c__law_draw.b .nil pass0 (pa_cons (v_ 1) (pa_cons pe_int pa_nil)))))) pa_nil))) pa_nil))) (pss_cons (ps_expr (pe_bm PySem.F.plainAttrs_list PySem.F.slot_list_append PySem.F.type_list_append mt_append (v_ 5) (pa_cons (pe_call c__law_grown.G (hr.mono (by first | decide | omega)) rfl c__law_grown.m c__law_grown.kp c__law_grown.b .nil pass0 (pa_cons (v_ 1) (pa_cons (pe_slice (slK K) (v_ 4) po_none (po_some (pe_op op_subM pe_int (v_ 3)))) pa_nil))) pa_nil))) (Evl.pss_cut (ps_if (pt_c op_ltM (v_ 3) pe_int) (pss_one (ps_expr (pe_bm PySem.F.plainAttrs_list PySem.F.slot_list_append PySem.F.type_list_append mt_append (v_ 5) (pa_cons (pe_call c__law_grown.G (hr.mono (by first | decide | omega)) rfl c__law_grown.m c__law_grown.kp c__law_grown.b .nil pass0 (pa_cons (v_ 1) (pa_cons (pe_slice (slK K) (v_ 4) po_none (po_some (pe_op op_subM pe_int (v_ 3)))) pa_nil))) pa_nil)))) pss_nil) (pss_cons (ps_setLc (i := 6) (own := [("_law_tree", 9)]) (g := gName 9) (by rfl) sc_law.nd rfl rfl (sw_true rfl rfl rfl (by decide +kernel)) (pi_list (v_ 5)) (blkOk_by (N := ["_law_script", "_law_state_here", "_law_fields", "_law_many", "_law_more", "_law_trees", "_law_made", "_law_i", "_law_j", "_law_tree", "_law_word"]) (sc := defScope s_law) (by decide +kernel)) (fun _ _ _ _ _ => pg_name (i := 9) sc_law.nd rfl (Or.inl rfl)) (fun _ _ _ _ _ => pts_nil) (fun _ _ _ _ _ => (pe_call c__law_condition.G (hr.mono (by first | decide | omega)) rfl c__law_condition.m c__law_condition.kp c__law_condition.b .nil pass0 (pa_cons (v_ 9) pa_nil)))) (pss_cons (ps_for PassesOwn.never rfl (pi_range1 rfl T.z_range (pa_cons (pe_callB (lenK K) (by rfl) T.z_len PySem.boot_len (pa_cons (v_ 5) pa_nil)) pa_nil)) (pg_name (i := 7) sc_law.nd rfl (.inl rfl)) (pss_one (ps_for PassesOwn.never rfl (pi_range1 rfl T.z_range (pa_cons (pe_callB (lenK K) (by rfl) T.z_len PySem.boot_len (pa_cons (v_ 5) pa_nil)) pa_nil)) (pg_name (i := 8) sc_law.nd rfl (.inl rfl)) (pss_one (ps_for PassesOwn.never rfl (pi_list (pe_lst (pa_cons pe_str (pa_cons pe_str pa_nil)))) (pg_name (i := 10) sc_law.nd rfl (.inl rfl)) (pss_one (ps_if (pt_not (pt_t K (pe_call c__law_same.G (hr.mono (by first | decide | omega)) rfl c__law_same.m c__law_same.kp c__law_same.b .nil pass0 (pa_cons (pe_call c__law_do.G (hr.mono (by first | decide | omega)) rfl c__law_do.m c__law_do.kp c__law_do.b .nil pass0 (pa_cons (v_ 10) (pa_cons (e_x K (v_ 6) (v_ 7)) (pa_cons (e_x K (v_ 6) (v_ 8)) pa_nil)))) (pa_cons (pe_call c__law_joined_due.G (hr.mono (by first | decide | omega)) rfl c__law_joined_due.m c__law_joined_due.kp c__law_joined_due.b .nil pass0 (pa_cons (v_ 10) (pa_cons (e_x K (v_ 5) (v_ 7)) (pa_cons (e_x K (v_ 5) (v_ 8)) pa_nil)))) pa_nil))))) (pss_one (ps_ret pe_bl)) pss_nil))))))) (pss_cons (ps_for PassesOwn.never rfl (pi_range1 rfl T.z_range (pa_cons (pe_callB (lenK K) (by rfl) T.z_len PySem.boot_len (pa_cons (v_ 5) pa_nil)) pa_nil)) (pg_name (i := 7) sc_law.nd rfl (.inl rfl)) (pss_one (ps_if (pt_not (pt_t K (pe_call c__law_is.G (hr.mono (by first | decide | omega)) rfl c__law_is.m c__law_is.kp c__law_is.b .nil pass0 (pa_cons (e_x K (v_ 6) (v_ 7)) (pa_cons (e_x K (v_ 5) (v_ 7)) pa_nil))))) (pss_one (ps_ret pe_bl)) pss_nil))) (pss_one (ps_ret (pe_call c__law_same.G (hr.mono (by first | decide | omega)) rfl c__law_same.m c__law_same.kp c__law_same.b .nil pass0 (pa_cons (e_cv K (pe_glob (v := .ref a_Condition) rfl T.g_Condition rfl)) (pa_cons pe_int pa_nil)))))))))))))))), ?_⟩
  refine ⟨s0, ns0, rfl, hS, hl, fun H1 st scr sm fs fc hd => ?_⟩
  refine ⟨st, scr, 3, rfl, hd, by decide, fun H2 N zs b2 hd2 nN hN zl zn znd => ?_⟩
  have Ns : N ≠ st := hd.ne_new nN
  have zn' : ∀ z ∈ zs, isName z = true := fun z hz => (zn z hz).1
  clear b2 hd sm nN znd
  refine ⟨st, scr, _, rfl, hd2, by decide, many_small (by decide) (by decide), fun r l r0 r1 hd3 => ?_⟩
  have hN3 : (upd H2 st (.lst l)) N = some (.lst (zs.map V.str)) := by rw [upd_ne Ns]; exact hN
  generalize upd H2 st (.lst l) = H3 at hd3 hN3 ⊢
  clear hd2 hN
  obtain ⟨m, hm⟩ : ∃ m : Nat, 8 - r = (m : Int) := ⟨(8 - r).toNat, by omega⟩
  have m1 : 1 ≤ m := by omega
  have m8 : m ≤ 8 := by omega
  clear r0 r1
  refine ⟨st, scr, N, zs, 8, rfl, hd3, hN3, Ns, by omega, by omega, zn', by decide, fun H4 D xs ts b4 hd4 nD hD hts hg h1 hlt => ?_⟩
  have Ds : D ≠ st := hd3.ne_new nD
  have hN4 := b4 _ _ Ns hN3
  clear hd3 hN3 b4 nD
  refine ⟨st, scr, N, zs, m, (by rw [← hm]; rfl), hd4, hN4, Ns, by omega, by omega, zn', by omega, fun H5 D2 xs2 ts2 b5 hd5 nD2 hD2 hts2 hg2 h12 hl2 => ?_⟩
  have D2s : D2 ≠ st := hd4.ne_new nD2
  have hD5 := b5 _ _ Ds hD
  have hts5 := hts.bt hd4.lst b5
  refine ⟨st, scr, D2, xs2, ts2, rfl, hd5, hD2, D2s, hts2, hg2, h12, by omega, by omega, fun H6 v t b6 hd6 hv tp to tc => ?_⟩
  have hD6 := b6 _ _ Ds hD5
  have hts6 := hts5.bt hd5.lst b6
  clear hd4 hN4 hd5 hD hts hD5 hts5 b5 b6 hD2 hts2 nD2
  refine ⟨(by show 1 ≤ sizeLine; decide), fun u1 n1 => ?_⟩
  have q1 := same_new (o := .tup [.str "always"]) n1
  refine ⟨(by show 1 ≤ sizeLine; decide), fun u2 n2 => ?_⟩
  have q2 := same_new (o := .tup [.str "never"]) n2
  refine ⟨(by show 3 ≤ sizeLine; decide), fun T0 nT => ?_⟩
  have q3 := same_new (o := .lst [v, .ref u1, .ref u2]) nT
  have T0s : T0 ≠ st := (hd6.new (q1.trans q2)).ne_new nT
  have T0c : T0 ≠ scr := (hd6.new (q1.trans q2)).ne_scr nT
  have hT7 := upd_same (H := upd (upd H6 u1 (.tup [.str "always"])) u2 (.tup [.str "never"])) (a := T0) (o := .lst [v, .ref u1, .ref u2])
  have s7 := (q1.trans q2).trans q3
  have e1 := (q2.trans q3) _ _ (upd_same (H := H6) (a := u1) (o := .tup [.str "always"]))
  have e2 := q3 _ _ (upd_same (H := upd H6 u1 (.tup [.str "always"])) (a := u2) (o := .tup [.str "never"]))
  have DT : D ≠ T0 := ne_of_none ((q1.trans q2) _ _ hD6) nT
  generalize upd (upd (upd H6 u1 (.tup [.str "always"])) u2 (.tup [.str "never"])) T0 (.lst [v, .ref u1, .ref u2]) = H7 at s7 e1 e2 hT7 ⊢
  have S7 : LS K H7 st scr D T0 xs ts [v, .ref u1, .ref u2] [t, .tt, .ff] := ⟨hd6.new s7, Ds, T0s, T0c, DT, s7 _ _ hD6, hts6.same s7, hT7, rfl, fun i c hc => by
    match i, hc with
    | 0, hc => cases hc; exact ⟨v, rfl, hv.same s7⟩
    | 1, hc => cases hc; exact ⟨_, rfl, u1, rfl, SqT.of e1⟩
    | 2, hc => cases hc; exact ⟨_, rfl, u2, rfl, SqT.of e2⟩⟩
  have hA : ∀ x ∈ [t, .tt, .ff], Tg x := fun x hx => by
    simp only [List.mem_cons, List.not_mem_nil, or_false] at hx
    rcases hx with rfl | rfl | rfl
    · exact tg_pure tp to (by omega)
    · exact tg_tt
    · exact tg_ff
  have hlen : ([t, .tt, .ff] : List Tr).length = 3 := rfl
  generalize [v, .ref u1, .ref u2] = ys at S7
  generalize [t, .tt, .ff] = us at S7 hA hlen
  clear e1 e2 q1 q2 q3 s7 hd6 hD6 hts6 hv n1 n2 nT hT7 T0s T0c DT tp to tc
  have xl := S7.ht.1
  have yl := S7.hu.1
  -- the first more
  refine ⟨.inl ⟨rfl, _, SqL.of S7.hT⟩, ?_⟩
  refine ⟨st, scr, _, rfl, S7.hd, by decide, many_small (by decide) (by decide), fun r2 l2 r0 r1 hd8 => ?_⟩
  have S8 := S7.bt Bt.st hd8
  generalize upd H7 st (.lst l2) = H8 at S8 ⊢
  refine ⟨_, rfl, .inl ⟨_, SqL.of S8.hD, fun p np => ?_⟩⟩
  rw [cutV_take _ (by omega)]
  obtain ⟨k, hk⟩ : ∃ k : Nat, (1 + r2).toNat = k := ⟨_, rfl⟩
  rw [hk]
  have sp := same_new (o := .lst (xs.take k)) np
  have ps : p ≠ st := S8.hd.ne_new np
  have hp := upd_same (H := H8) (a := p) (o := .lst (xs.take k))
  generalize upd H8 p (.lst (xs.take k)) = H9 at sp hp ⊢
  have S9 := S8.same sp
  refine ⟨st, scr, p, _, _, rfl, S9.hd, hp, ps, S9.ht.take k, gr_take hg k, one_take h1 k, by rw [List.length_take]; omega, by rw [List.length_take]; omega, fun H10 v3 t3 b10 hd10 hv3 tp3 to3 tc3 => ?_⟩
  rw [List.length_take] at tc3
  have S10 := S9.bt b10 hd10
  refine ⟨T0, _, v3, rfl, rfl, S10.hT, line_lt (by omega), ?_⟩
  have S11 := S10.app hv3
  have hA := tg_app hA (tg_pure tp3 to3 (by omega))
  have hlen : (us ++ [t3]).length = 4 := by rw [List.length_append, hlen]; rfl
  generalize upd H10 T0 (.lst (ys ++ [v3])) = H11 at S11 ⊢
  generalize ys ++ [v3] = ys at S11
  generalize us ++ [t3] = us at S11 hA hlen
  clear S7 hd8 S8 np sp hp S9 hd10 S10 hv3 tp3 to3 tc3 b10 xl yl hk ps r0 r1
  -- the second
  have xl := S11.ht.1
  have yl := S11.hu.1
  refine ⟨.inl ⟨rfl, _, SqL.of S11.hT⟩, ?_⟩
  refine ⟨_, rfl, .inl ⟨_, SqL.of S11.hD, fun p np => ?_⟩⟩
  rw [cutV_take _ (by omega)]
  obtain ⟨k, hk⟩ : ∃ k : Nat, (9 - (8 - r)).toNat = k := ⟨_, rfl⟩
  rw [hk]
  have sp := same_new (o := .lst (xs.take k)) np
  have ps : p ≠ st := S11.hd.ne_new np
  have hp := upd_same (H := H11) (a := p) (o := .lst (xs.take k))
  generalize upd H11 p (.lst (xs.take k)) = H9 at sp hp ⊢
  have S9 := S11.same sp
  refine ⟨st, scr, p, _, _, rfl, S9.hd, hp, ps, S9.ht.take k, gr_take hg k, one_take h1 k, by rw [List.length_take]; omega, by rw [List.length_take]; omega, fun H10 v3 t3 b10 hd10 hv3 tp3 to3 tc3 => ?_⟩
  rw [List.length_take] at tc3
  have S10 := S9.bt b10 hd10
  refine ⟨T0, _, v3, rfl, rfl, S10.hT, line_lt (by omega), ?_⟩
  have S12 := S10.app hv3
  have hA := tg_app hA (tg_pure tp3 to3 (by omega))
  have hlen : (us ++ [t3]).length = 5 := by rw [List.length_append, hlen]; rfl
  generalize upd H10 T0 (.lst (ys ++ [v3])) = H12 at S12 ⊢
  generalize ys ++ [v3] = ys at S12
  generalize us ++ [t3] = us at S12 hA hlen
  clear S11 np sp hp S9 hd10 S10 hv3 tp3 to3 tc3 b10 xl yl hk ps
  -- the third, perhaps
  have xl := S12.ht.1
  have yl := S12.hu.1
  refine ⟨fun σ' H' => σ' = [some (.ref s0), some (.ref st), some (.ref N), some (.int (8 - r)), some (.ref D), some (.ref T0), none, none, none, none, none] ∧ ∃ ys us, LS K H' st scr D T0 xs ts ys us ∧ (∀ x ∈ us, Tg x) ∧ us.length ≤ 6, ?_, ?_⟩
  · refine ite2 (fun e => ?_) (fun e => ?_)
    · have e : 8 - r < 8 := of_decide_eq_true e
      refine ⟨.inl ⟨rfl, _, SqL.of S12.hT⟩, ?_⟩
      refine ⟨_, rfl, .inl ⟨_, SqL.of S12.hD, fun p np => ?_⟩⟩
      rw [cutV_take _ (by omega)]
      obtain ⟨k, hk⟩ : ∃ k : Nat, (8 - (8 - r)).toNat = k := ⟨_, rfl⟩
      rw [hk]
      have sp := same_new (o := .lst (xs.take k)) np
      have ps : p ≠ st := S12.hd.ne_new np
      have hp := upd_same (H := H12) (a := p) (o := .lst (xs.take k))
      generalize upd H12 p (.lst (xs.take k)) = H9 at sp hp ⊢
      have S9 := S12.same sp
      refine ⟨st, scr, p, _, _, rfl, S9.hd, hp, ps, S9.ht.take k, gr_take hg k, one_take h1 k, by rw [List.length_take]; omega, by rw [List.length_take]; omega, fun H10 v3 t3 b10 hd10 hv3 tp3 to3 tc3 => ?_⟩
      rw [List.length_take] at tc3
      have S10 := S9.bt b10 hd10
      refine ⟨T0, _, v3, rfl, rfl, S10.hT, line_lt (by omega), ?_⟩
      exact ⟨rfl, _, _, S10.app hv3, tg_app hA (tg_pure tp3 to3 (by omega)), by rw [List.length_append, hlen]; exact Nat.le_refl _⟩
    · exact ⟨rfl, ys, us, S12, hA, by omega⟩
  rintro σ' H13 ⟨rfl, ys, us, S, hA, hlen⟩
  have yl := S.hu.1
  have hT := S.hT
  have hu := S.hu
  clear S12 S xl yl hg h1
  -- the conditions
  refine ⟨T0, rfl, ⟨_, SqL.of hT⟩, fun M nM => ?_⟩
  have MT : T0 ≠ M := ne_of_none hT nM
  refine lc_it (walk_list (xs := ys)) (fun i H' => Same H13 H' ∧ ∃ ms : List V, H' M = some (.lst ms) ∧ MsAt K H' ms (us.take i)) ⟨same_new nM, [], upd_same, rfl, fun i t h => nomatch h⟩ (fun _ _ _ h => SqL.of (h.1 _ _ hT)) ?_ ?_
  · rintro i v2 H14 H15 hi ⟨s14, ms, hM, hms⟩ ⟨rfl, hv⟩
    have hv : ys[i]? = some v2 := hv
    have hil : i < us.length := by rw [← hu.1]; exact hi
    obtain ⟨t, et⟩ : ∃ t, us[i]? = some t := ⟨_, List.getElem?_eq_getElem hil⟩
    obtain ⟨v', ev, ht⟩ := hu.2 i t et
    rw [ev] at hv
    cases hv
    have tg := hA t (List.mem_of_getElem? et)
    refine ⟨rfl, ?_⟩
    refine ⟨v2, t, rfl, ht.same s14, by have := tg.g.dp; omega, tg.g, tg.c, tg.p, fun H16 a s16 na hc => ?_⟩
    have hM16 := s16 _ _ hM
    refine ⟨ms, hM16, line_lt (by rw [hms.1, List.length_take]; omega), ?_⟩
    refine ⟨fun b o hb => ?_, ms ++ [.ref a], upd_same, ?_⟩
    · rw [upd_ne (ne_of_none hb nM)]
      exact s16 _ _ (s14 _ _ hb)
    · rw [take_snoc et]
      exact ((hms.same s16).bt ⟨_, hM16⟩ Bt.st).snoc (hc.bt ⟨_, hM16⟩ Bt.st)
  rintro H14 ⟨s14, ms, hM, hms⟩
  rw [hu.1, List.take_length] at hms
  have hT := s14 _ _ hT
  have hu := hu.same s14
  clear s14 nM MT
  have yl := hu.1
  have ml := hms.1
  refine .inl ⟨_, .inl (SqL.of hT), us.length, by rw [hu.1], by omega, by omega, ?_⟩
  refine for_range (lo := 0) (n := us.length) (fun i σ' H' => ∃ x y z : Option V, σ' = [some (.ref s0), some (.ref st), some (.ref N), some (.int (8 - r)), some (.ref D), some (.ref T0), some (.ref M), x, y, none, z] ∧ Same H14 H') ⟨_, _, _, rfl, Same.refl _⟩ ?_ ?_
  · rintro i σ' H15 hi ⟨x, y, z, rfl, s15⟩
    obtain ⟨ti, eti⟩ : ∃ t, us[i]? = some t := ⟨_, List.getElem?_eq_getElem hi⟩
    obtain ⟨vi, evi, hvi⟩ := hu.2 i ti eti
    obtain ⟨ai, eai, hai⟩ := hms.2 i ti eti
    have gi := hA ti (List.mem_of_getElem? eti)
    refine .inl ⟨_, .inl (SqL.of (s15 _ _ hT)), us.length, by rw [hu.1], by omega, by omega, ?_⟩
    rw [show (0 : Int) + i = ((i : Nat) : Int) by omega]
    refine for_range (lo := 0) (n := us.length) (fun j σ' H' => ∃ y z : Option V, σ' = [some (.ref s0), some (.ref st), some (.ref N), some (.int (8 - r)), some (.ref D), some (.ref T0), some (.ref M), some (.int i), y, none, z] ∧ Same H14 H') ⟨_, _, rfl, s15⟩ ?_ ?_
    · rintro j σ' H16 hj ⟨y, z, rfl, s16⟩
      obtain ⟨tj, etj⟩ : ∃ t, us[j]? = some t := ⟨_, List.getElem?_eq_getElem hj⟩
      obtain ⟨vj, evj, hvj⟩ := hu.2 j tj etj
      obtain ⟨aj, eaj, haj⟩ := hms.2 j tj etj
      have gj := hA tj (List.mem_of_getElem? etj)
      rw [show (0 : Int) + j = ((j : Nat) : Int) by omega]
      refine ⟨(by show 2 ≤ sizeLine; decide), fun W nW => ?_⟩
      have sW := same_new (o := .lst ([true, false].map fun b => V.str (wd b))) nW
      have hW := upd_same (H := H16) (a := W) (o := .lst ([true, false].map fun b => V.str (wd b)))
      have s17 := s16.trans sW
      refine ⟨W, rfl, ⟨_, SqL.of hW⟩, ?_⟩
      refine for_list (K := K) (a := W) (xs := [true, false].map fun b => V.str (wd b)) (fun k σ' H' => ∃ z : Option V, σ' = [some (.ref s0), some (.ref st), some (.ref N), some (.int (8 - r)), some (.ref D), some (.ref T0), some (.ref M), some (.int i), some (.int j), none, z] ∧ Same (upd H16 W (.lst ([true, false].map fun b => V.str (wd b)))) H') ⟨_, rfl, Same.refl _⟩ (fun i σ' H' hi ⟨_, _, s⟩ => SqL.of (s _ _ hW)) ?_ ?_
      · rintro k v σ' H18 hk ⟨z, rfl, s18⟩
        rw [List.getElem?_map] at hk
        obtain ⟨b, hb, rfl⟩ := Option.map_eq_some_iff.mp hk
        have s := s17.trans s18
        refine ⟨_, .inl (SqL.of (s _ _ hM)), .ref ai, atI_nat eai, _, .inl (SqL.of (s _ _ hM)), .ref aj, atI_nat eaj, ?_⟩
        refine ⟨b, ai, aj, ti, tj, rfl, hai.same s, haj.same s, gi.g, gj.g, fun H19 t1 s19 r1 => ?_⟩
        have s' := s.trans s19
        refine ⟨_, .inl (SqL.of (s' _ _ hT)), vi, atI_nat evi, _, .inl (SqL.of (s' _ _ hT)), vj, atI_nat evj, ?_⟩
        have d1 := gi.g.dp
        have d2 := gj.g.dp
        refine ⟨b, vi, vj, ti, tj, rfl, hvi.same s', hvj.same s', by omega, by omega, gi.c, gj.c, fun H20 t2 s20 r2 => ?_⟩
        have jd : (joinT b ti tj).depth ≤ max ti.depth tj.depth + 1 := joinT_depth
        refine ⟨_, _, rfl, jres_same (by omega) (r1.same s20) r2, ?_⟩
        refine ite2 (fun e => nomatch e) (fun _ => ?_)
        exact ⟨_, rfl, (s18.trans s19).trans s20⟩
      · rintro σ' H18 ⟨z, rfl, s18⟩
        exact ⟨_, _, rfl, s17.trans s18⟩
    · rintro σ' H16 ⟨y, z, rfl, s16⟩
      exact ⟨_, _, _, rfl, s16⟩
  rintro σ' H15 ⟨x, y, z, rfl, s15⟩
  refine .inl ⟨_, .inl (SqL.of (s15 _ _ hT)), us.length, by rw [hu.1], by omega, by omega, ?_⟩
  refine for_range (lo := 0) (n := us.length) (fun i σ' H' => ∃ x : Option V, σ' = [some (.ref s0), some (.ref st), some (.ref N), some (.int (8 - r)), some (.ref D), some (.ref T0), some (.ref M), x, y, none, z] ∧ Same H14 H') ⟨_, rfl, s15⟩ ?_ ?_
  · rintro i σ' H16 hi ⟨x, rfl, s16⟩
    obtain ⟨ti, eti⟩ : ∃ t, us[i]? = some t := ⟨_, List.getElem?_eq_getElem hi⟩
    obtain ⟨vi, evi, hvi⟩ := hu.2 i ti eti
    obtain ⟨ai, eai, hai⟩ := hms.2 i ti eti
    have gi := hA ti (List.mem_of_getElem? eti)
    rw [show (0 : Int) + i = ((i : Nat) : Int) by omega]
    refine ⟨_, .inl (SqL.of (s16 _ _ hM)), .ref ai, atI_nat eai, _, .inl (SqL.of (s16 _ _ hT)), vi, atI_nat evi, ?_⟩
    refine ⟨ai, vi, ti, rfl, hai.same s16, hvi.same s16, gi.g, fun H17 s17 => ?_⟩
    refine ite2 (fun e => nomatch e) (fun _ => ?_)
    exact ⟨_, rfl, s16.trans s17⟩
  rintro σ' H16 ⟨x, rfl, s16⟩
  obtain ⟨mu, hmu⟩ := T.cv_Condition_MOST
  refine ⟨a_Condition, _, _, _, rfl, T.rd_Condition, hmu, ?_⟩
  exact ⟨_, _, rfl, same_int 8, q _⟩
end
theorem all_mk {l : PySem.W.OpenLaw} {w : World} {K : PySem.W.Frag} {h : Heap} {mg : Str → Option Value} {fa : Addr} {t_BOUND t_LETTERS t_LONGEST_NAME : Tok} {a_ALWAYS a_NEVER a_OPPOSITES a_RESERVED a_SIGNS a_BadName a_BadNumber a_BadSign a_Condition a_ElseputError a_TooLarge : Addr} {u_Condition_MOST : Tok} {f_is_name f_in_bound f_check_name f_check_number f_comparisons f_joined_tree f_Condition___init__ f_joined f_opposite f__law_state f__law_draw f__law_pick f__law_number f__law_constant f__law_names f__law_is_int f__law_same f__law_sorted f__law_compared f_Condition_compare f_Condition_always f_Condition_never f_Condition___and__ f_Condition___or__ f__law_condition f__law_leaves f__law_grown f__law_opposite f__law_field_names f__law_joined_due f__law_do f_Condition_fields f_Condition_size f_Condition___invert__ f__law_is f_law : Addr} {od_is_name an_is_name : Option Addr} {sl_is_name : Array (Option Value)} {oc_is_name kV_is_name dc_is_name pm_is_name cd_is_name ct_is_name : Value} {od_in_bound an_in_bound : Option Addr} {sl_in_bound : Array (Option Value)} {oc_in_bound kV_in_bound dc_in_bound pm_in_bound cd_in_bound ct_in_bound : Value} {od_check_name an_check_name : Option Addr} {sl_check_name : Array (Option Value)} {oc_check_name kV_check_name dc_check_name pm_check_name cd_check_name ct_check_name : Value} {od_check_number an_check_number : Option Addr} {sl_check_number : Array (Option Value)} {oc_check_number kV_check_number dc_check_number pm_check_number cd_check_number ct_check_number : Value} {od_comparisons an_comparisons : Option Addr} {sl_comparisons : Array (Option Value)} {oc_comparisons kV_comparisons dc_comparisons pm_comparisons cd_comparisons ct_comparisons : Value} {od_joined_tree an_joined_tree : Option Addr} {sl_joined_tree : Array (Option Value)} {oc_joined_tree kV_joined_tree dc_joined_tree pm_joined_tree cd_joined_tree ct_joined_tree : Value} {od_Condition___init__ an_Condition___init__ : Option Addr} {sl_Condition___init__ : Array (Option Value)} {oc_Condition___init__ kV_Condition___init__ dc_Condition___init__ pm_Condition___init__ cd_Condition___init__ ct_Condition___init__ : Value} {od_joined an_joined : Option Addr} {sl_joined : Array (Option Value)} {oc_joined kV_joined dc_joined pm_joined cd_joined ct_joined : Value} {od_opposite an_opposite : Option Addr} {sl_opposite : Array (Option Value)} {oc_opposite kV_opposite dc_opposite pm_opposite cd_opposite ct_opposite : Value} {od__law_state an__law_state : Option Addr} {sl__law_state : Array (Option Value)} {oc__law_state kV__law_state dc__law_state pm__law_state cd__law_state ct__law_state : Value} {od__law_draw an__law_draw : Option Addr} {sl__law_draw : Array (Option Value)} {oc__law_draw kV__law_draw dc__law_draw pm__law_draw cd__law_draw ct__law_draw : Value} {od__law_pick an__law_pick : Option Addr} {sl__law_pick : Array (Option Value)} {oc__law_pick kV__law_pick dc__law_pick pm__law_pick cd__law_pick ct__law_pick : Value} {od__law_number an__law_number : Option Addr} {sl__law_number : Array (Option Value)} {oc__law_number kV__law_number dc__law_number pm__law_number cd__law_number ct__law_number : Value} {od__law_constant an__law_constant : Option Addr} {sl__law_constant : Array (Option Value)} {oc__law_constant kV__law_constant dc__law_constant pm__law_constant cd__law_constant ct__law_constant : Value} {od__law_names an__law_names : Option Addr} {sl__law_names : Array (Option Value)} {oc__law_names kV__law_names dc__law_names pm__law_names cd__law_names ct__law_names : Value} {od__law_is_int an__law_is_int : Option Addr} {sl__law_is_int : Array (Option Value)} {oc__law_is_int kV__law_is_int dc__law_is_int pm__law_is_int cd__law_is_int ct__law_is_int : Value} {od__law_same an__law_same : Option Addr} {sl__law_same : Array (Option Value)} {oc__law_same kV__law_same dc__law_same pm__law_same cd__law_same ct__law_same : Value} {od__law_sorted an__law_sorted : Option Addr} {sl__law_sorted : Array (Option Value)} {oc__law_sorted kV__law_sorted dc__law_sorted pm__law_sorted cd__law_sorted ct__law_sorted : Value} {od__law_compared an__law_compared : Option Addr} {sl__law_compared : Array (Option Value)} {oc__law_compared kV__law_compared dc__law_compared pm__law_compared cd__law_compared ct__law_compared : Value} {p_Condition_compare : Addr} {r_Condition_compare : List Value} {od_Condition_compare an_Condition_compare : Option Addr} {sl_Condition_compare : Array (Option Value)} {oc_Condition_compare kV_Condition_compare dc_Condition_compare pm_Condition_compare cd_Condition_compare ct_Condition_compare : Value} {p_Condition_always : Addr} {r_Condition_always : List Value} {od_Condition_always an_Condition_always : Option Addr} {sl_Condition_always : Array (Option Value)} {oc_Condition_always kV_Condition_always dc_Condition_always pm_Condition_always cd_Condition_always ct_Condition_always : Value} {p_Condition_never : Addr} {r_Condition_never : List Value} {od_Condition_never an_Condition_never : Option Addr} {sl_Condition_never : Array (Option Value)} {oc_Condition_never kV_Condition_never dc_Condition_never pm_Condition_never cd_Condition_never ct_Condition_never : Value} {od_Condition___and__ an_Condition___and__ : Option Addr} {sl_Condition___and__ : Array (Option Value)} {oc_Condition___and__ kV_Condition___and__ dc_Condition___and__ pm_Condition___and__ cd_Condition___and__ ct_Condition___and__ : Value} {od_Condition___or__ an_Condition___or__ : Option Addr} {sl_Condition___or__ : Array (Option Value)} {oc_Condition___or__ kV_Condition___or__ dc_Condition___or__ pm_Condition___or__ cd_Condition___or__ ct_Condition___or__ : Value} {od__law_condition an__law_condition : Option Addr} {sl__law_condition : Array (Option Value)} {oc__law_condition kV__law_condition dc__law_condition pm__law_condition cd__law_condition ct__law_condition : Value} {od__law_leaves an__law_leaves : Option Addr} {sl__law_leaves : Array (Option Value)} {oc__law_leaves kV__law_leaves dc__law_leaves pm__law_leaves cd__law_leaves ct__law_leaves : Value} {od__law_grown an__law_grown : Option Addr} {sl__law_grown : Array (Option Value)} {oc__law_grown kV__law_grown dc__law_grown pm__law_grown cd__law_grown ct__law_grown : Value} {od__law_opposite an__law_opposite : Option Addr} {sl__law_opposite : Array (Option Value)} {oc__law_opposite kV__law_opposite dc__law_opposite pm__law_opposite cd__law_opposite ct__law_opposite : Value} {od__law_field_names an__law_field_names : Option Addr} {sl__law_field_names : Array (Option Value)} {oc__law_field_names kV__law_field_names dc__law_field_names pm__law_field_names cd__law_field_names ct__law_field_names : Value} {od__law_joined_due an__law_joined_due : Option Addr} {sl__law_joined_due : Array (Option Value)} {oc__law_joined_due kV__law_joined_due dc__law_joined_due pm__law_joined_due cd__law_joined_due ct__law_joined_due : Value} {od__law_do an__law_do : Option Addr} {sl__law_do : Array (Option Value)} {oc__law_do kV__law_do dc__law_do pm__law_do cd__law_do ct__law_do : Value} {p_Condition_fields : Addr} {r_Condition_fields : List Value} {od_Condition_fields an_Condition_fields : Option Addr} {sl_Condition_fields : Array (Option Value)} {oc_Condition_fields kV_Condition_fields dc_Condition_fields pm_Condition_fields cd_Condition_fields ct_Condition_fields : Value} {p_Condition_size : Addr} {r_Condition_size : List Value} {od_Condition_size an_Condition_size : Option Addr} {sl_Condition_size : Array (Option Value)} {oc_Condition_size kV_Condition_size dc_Condition_size pm_Condition_size cd_Condition_size ct_Condition_size : Value} {od_Condition___invert__ an_Condition___invert__ : Option Addr} {sl_Condition___invert__ : Array (Option Value)} {oc_Condition___invert__ kV_Condition___invert__ dc_Condition___invert__ pm_Condition___invert__ cd_Condition___invert__ ct_Condition___invert__ : Value} {od__law_is an__law_is : Option Addr} {sl__law_is : Array (Option Value)} {oc__law_is kV__law_is dc__law_is pm__law_is cd__law_is ct__law_is : Value} {od_law an_law : Option Addr} {sl_law : Array (Option Value)} {oc_law kV_law dc_law pm_law cd_law ct_law : Value} {od_ALWAYS : Option Addr} {its_ALWAYS : Array Value} {n_ALWAYS : Nat} {sl_ALWAYS : Array (Option Value)} {od_NEVER : Option Addr} {its_NEVER : Array Value} {n_NEVER : Nat} {sl_NEVER : Array (Option Value)} {od_RESERVED : Option Addr} {its_RESERVED : Array Value} {n_RESERVED : Nat} {sl_RESERVED : Array (Option Value)} {od_SIGNS : Option Addr} {its_SIGNS : Array Value} {n_SIGNS : Nat} {sl_SIGNS : Array (Option Value)} {f_BadName N_BadName cc_BadName cda_BadName : Addr} {nm_BadName q_BadName : Str} {bs_BadName bm_BadName : List Value} {sn_BadName : List Str} {sub_BadName : List Value} {ab_BadName : Bool} {col_BadName : Option Bool} {dd_BadName : Option Addr} {e0_BadName e1_BadName e2_BadName e3_BadName e5_BadName : Option Value} {oc_BadName doc_BadName pm_BadName ct_BadName ccl_BadName cl_BadName : Value} {od_BadName cdd_BadName cld_BadName : Option Addr} {osl_BadName ccs_BadName csl_BadName : Array (Option Value)} {vs_BadName : Array Value} {file_BadName : Str} {tf_BadName : Tok} {cdD_BadName : ClassData} {f_BadNumber N_BadNumber cc_BadNumber cda_BadNumber : Addr} {nm_BadNumber q_BadNumber : Str} {bs_BadNumber bm_BadNumber : List Value} {sn_BadNumber : List Str} {sub_BadNumber : List Value} {ab_BadNumber : Bool} {col_BadNumber : Option Bool} {dd_BadNumber : Option Addr} {e0_BadNumber e1_BadNumber e2_BadNumber e3_BadNumber e5_BadNumber : Option Value} {oc_BadNumber doc_BadNumber pm_BadNumber ct_BadNumber ccl_BadNumber cl_BadNumber : Value} {od_BadNumber cdd_BadNumber cld_BadNumber : Option Addr} {osl_BadNumber ccs_BadNumber csl_BadNumber : Array (Option Value)} {vs_BadNumber : Array Value} {file_BadNumber : Str} {tf_BadNumber : Tok} {cdD_BadNumber : ClassData} {f_BadSign N_BadSign cc_BadSign cda_BadSign : Addr} {nm_BadSign q_BadSign : Str} {bs_BadSign bm_BadSign : List Value} {sn_BadSign : List Str} {sub_BadSign : List Value} {ab_BadSign : Bool} {col_BadSign : Option Bool} {dd_BadSign : Option Addr} {e0_BadSign e1_BadSign e2_BadSign e3_BadSign e5_BadSign : Option Value} {oc_BadSign doc_BadSign pm_BadSign ct_BadSign ccl_BadSign cl_BadSign : Value} {od_BadSign cdd_BadSign cld_BadSign : Option Addr} {osl_BadSign ccs_BadSign csl_BadSign : Array (Option Value)} {vs_BadSign : Array Value} {file_BadSign : Str} {tf_BadSign : Tok} {cdD_BadSign : ClassData} {f_TooLarge N_TooLarge cc_TooLarge cda_TooLarge : Addr} {nm_TooLarge q_TooLarge : Str} {bs_TooLarge bm_TooLarge : List Value} {sn_TooLarge : List Str} {sub_TooLarge : List Value} {ab_TooLarge : Bool} {col_TooLarge : Option Bool} {dd_TooLarge : Option Addr} {e0_TooLarge e1_TooLarge e2_TooLarge e3_TooLarge e5_TooLarge : Option Value} {oc_TooLarge doc_TooLarge pm_TooLarge ct_TooLarge ccl_TooLarge cl_TooLarge : Value} {od_TooLarge cdd_TooLarge cld_TooLarge : Option Addr} {osl_TooLarge ccs_TooLarge csl_TooLarge : Array (Option Value)} {vs_TooLarge : Array Value} {file_TooLarge : Str} {tf_TooLarge : Tok} {cdD_TooLarge : ClassData} {es_OPPOSITES : Array DictEntry} {nd_OPPOSITES : Nat} {tk_OPPOSITES_0 : Tok} {tk_OPPOSITES_1 : Tok} {tk_OPPOSITES_2 : Tok} {tk_OPPOSITES_3 : Tok} {tk_OPPOSITES_4 : Tok} {tk_OPPOSITES_5 : Tok} (X : K.In h) (G : h.Ns mainGlobals mg) (hfa : mg "law" = some (.ref fa))
    (g_Condition : PySem.W.nsIn K mainGlobals "Condition" = some (some (.ref a_Condition)))
    (pg_Condition : PySem.W.plainGet K a_Condition Str.empty = true)
    (hx_Condition : PySem.W.hasDictIn K a_Condition = true)
    (po_Condition : PySem.W.plainOver K a_Condition = true)
    (st_Condition : PySem.W.findIn K (.ref a_Condition) "__setattr__" = some (some (.builtin "object.__setattr__")))
    (rr_Condition : PySem.W.readsIn K a_Condition (.type "type") = true)
    (rg_Condition : PySem.W.specialIn K (.ref a_Condition) "__getattribute__" = some (some (.builtin "type.__getattribute__")))
    (mi_Condition : PySem.W.makesIn K a_Condition = true)
    (ko_Condition : PySem.W.keepIn K (.ref a_Condition) = true)
    (sf_Condition : PySem.W.selfFirst K a_Condition = true)
    (na_Condition__fields : PySem.W.findIn K (.ref a_Condition) "_fields" = some none)
    (na_Condition_tree : PySem.W.findIn K (.ref a_Condition) "tree" = some none)
    (cv_Condition_MOST : PySem.W.findCls K (.ref a_Condition) (.type "type") "MOST" = some (.val (.int 8 u_Condition_MOST)))
    (a_is_name : PySem.W.nsIn K mainGlobals "is_name" = some (some (.ref f_is_name)))
    (l_is_name : K.lookup f_is_name = some ⟨oc_is_name, od_is_name, .func (PySem.W.fnOf "is_name" "is_name" (defArgs s_is_name) (defBody s_is_name) (defScope s_is_name) .none kV_is_name dc_is_name pm_is_name an_is_name cd_is_name ct_is_name), sl_is_name⟩)
    (c_is_name : PySem.W.codeIn K cd_is_name "is_name" = true)
    (k_is_name : PySem.W.keepIn K (.ref f_is_name) = true)
    (a_in_bound : PySem.W.nsIn K mainGlobals "in_bound" = some (some (.ref f_in_bound)))
    (l_in_bound : K.lookup f_in_bound = some ⟨oc_in_bound, od_in_bound, .func (PySem.W.fnOf "in_bound" "in_bound" (defArgs s_in_bound) (defBody s_in_bound) (defScope s_in_bound) .none kV_in_bound dc_in_bound pm_in_bound an_in_bound cd_in_bound ct_in_bound), sl_in_bound⟩)
    (c_in_bound : PySem.W.codeIn K cd_in_bound "in_bound" = true)
    (k_in_bound : PySem.W.keepIn K (.ref f_in_bound) = true)
    (a_check_name : PySem.W.nsIn K mainGlobals "check_name" = some (some (.ref f_check_name)))
    (l_check_name : K.lookup f_check_name = some ⟨oc_check_name, od_check_name, .func (PySem.W.fnOf "check_name" "check_name" (defArgs s_check_name) (defBody s_check_name) (defScope s_check_name) .none kV_check_name dc_check_name pm_check_name an_check_name cd_check_name ct_check_name), sl_check_name⟩)
    (c_check_name : PySem.W.codeIn K cd_check_name "check_name" = true)
    (k_check_name : PySem.W.keepIn K (.ref f_check_name) = true)
    (a_check_number : PySem.W.nsIn K mainGlobals "check_number" = some (some (.ref f_check_number)))
    (l_check_number : K.lookup f_check_number = some ⟨oc_check_number, od_check_number, .func (PySem.W.fnOf "check_number" "check_number" (defArgs s_check_number) (defBody s_check_number) (defScope s_check_number) .none kV_check_number dc_check_number pm_check_number an_check_number cd_check_number ct_check_number), sl_check_number⟩)
    (c_check_number : PySem.W.codeIn K cd_check_number "check_number" = true)
    (k_check_number : PySem.W.keepIn K (.ref f_check_number) = true)
    (a_comparisons : PySem.W.nsIn K mainGlobals "comparisons" = some (some (.ref f_comparisons)))
    (l_comparisons : K.lookup f_comparisons = some ⟨oc_comparisons, od_comparisons, .func (PySem.W.fnOf "comparisons" "comparisons" (defArgs s_comparisons) (defBody s_comparisons) (defScope s_comparisons) .none kV_comparisons dc_comparisons pm_comparisons an_comparisons cd_comparisons ct_comparisons), sl_comparisons⟩)
    (c_comparisons : PySem.W.codeIn K cd_comparisons "comparisons" = true)
    (k_comparisons : PySem.W.keepIn K (.ref f_comparisons) = true)
    (a_joined_tree : PySem.W.nsIn K mainGlobals "joined_tree" = some (some (.ref f_joined_tree)))
    (l_joined_tree : K.lookup f_joined_tree = some ⟨oc_joined_tree, od_joined_tree, .func (PySem.W.fnOf "joined_tree" "joined_tree" (defArgs s_joined_tree) (defBody s_joined_tree) (defScope s_joined_tree) .none kV_joined_tree dc_joined_tree pm_joined_tree an_joined_tree cd_joined_tree ct_joined_tree), sl_joined_tree⟩)
    (c_joined_tree : PySem.W.codeIn K cd_joined_tree "joined_tree" = true)
    (k_joined_tree : PySem.W.keepIn K (.ref f_joined_tree) = true)
    (fa_Condition___init__ : PySem.W.findIn K (.ref a_Condition) "__init__" = some (some (.ref f_Condition___init__)))
    (fn_Condition___init__ : PySem.W.isFn K (.ref f_Condition___init__) = true)
    (l_Condition___init__ : K.lookup f_Condition___init__ = some ⟨oc_Condition___init__, od_Condition___init__, .func (PySem.W.fnOf "__init__" "Condition.__init__" (defArgs s_Condition___init__) (defBody s_Condition___init__) (defScope s_Condition___init__) .none kV_Condition___init__ dc_Condition___init__ pm_Condition___init__ an_Condition___init__ cd_Condition___init__ ct_Condition___init__), sl_Condition___init__⟩)
    (c_Condition___init__ : PySem.W.codeIn K cd_Condition___init__ "Condition.__init__" = true)
    (k_Condition___init__ : PySem.W.keepIn K (.ref f_Condition___init__) = true)
    (a_joined : PySem.W.nsIn K mainGlobals "joined" = some (some (.ref f_joined)))
    (l_joined : K.lookup f_joined = some ⟨oc_joined, od_joined, .func (PySem.W.fnOf "joined" "joined" (defArgs s_joined) (defBody s_joined) (defScope s_joined) .none kV_joined dc_joined pm_joined an_joined cd_joined ct_joined), sl_joined⟩)
    (c_joined : PySem.W.codeIn K cd_joined "joined" = true)
    (k_joined : PySem.W.keepIn K (.ref f_joined) = true)
    (a_opposite : PySem.W.nsIn K mainGlobals "opposite" = some (some (.ref f_opposite)))
    (l_opposite : K.lookup f_opposite = some ⟨oc_opposite, od_opposite, .func (PySem.W.fnOf "opposite" "opposite" (defArgs s_opposite) (defBody s_opposite) (defScope s_opposite) .none kV_opposite dc_opposite pm_opposite an_opposite cd_opposite ct_opposite), sl_opposite⟩)
    (c_opposite : PySem.W.codeIn K cd_opposite "opposite" = true)
    (k_opposite : PySem.W.keepIn K (.ref f_opposite) = true)
    (a__law_state : PySem.W.nsIn K mainGlobals "_law_state" = some (some (.ref f__law_state)))
    (l__law_state : K.lookup f__law_state = some ⟨oc__law_state, od__law_state, .func (PySem.W.fnOf "_law_state" "_law_state" (defArgs s__law_state) (defBody s__law_state) (defScope s__law_state) .none kV__law_state dc__law_state pm__law_state an__law_state cd__law_state ct__law_state), sl__law_state⟩)
    (c__law_state : PySem.W.codeIn K cd__law_state "_law_state" = true)
    (k__law_state : PySem.W.keepIn K (.ref f__law_state) = true)
    (a__law_draw : PySem.W.nsIn K mainGlobals "_law_draw" = some (some (.ref f__law_draw)))
    (l__law_draw : K.lookup f__law_draw = some ⟨oc__law_draw, od__law_draw, .func (PySem.W.fnOf "_law_draw" "_law_draw" (defArgs s__law_draw) (defBody s__law_draw) (defScope s__law_draw) .none kV__law_draw dc__law_draw pm__law_draw an__law_draw cd__law_draw ct__law_draw), sl__law_draw⟩)
    (c__law_draw : PySem.W.codeIn K cd__law_draw "_law_draw" = true)
    (k__law_draw : PySem.W.keepIn K (.ref f__law_draw) = true)
    (a__law_pick : PySem.W.nsIn K mainGlobals "_law_pick" = some (some (.ref f__law_pick)))
    (l__law_pick : K.lookup f__law_pick = some ⟨oc__law_pick, od__law_pick, .func (PySem.W.fnOf "_law_pick" "_law_pick" (defArgs s__law_pick) (defBody s__law_pick) (defScope s__law_pick) .none kV__law_pick dc__law_pick pm__law_pick an__law_pick cd__law_pick ct__law_pick), sl__law_pick⟩)
    (c__law_pick : PySem.W.codeIn K cd__law_pick "_law_pick" = true)
    (k__law_pick : PySem.W.keepIn K (.ref f__law_pick) = true)
    (a__law_number : PySem.W.nsIn K mainGlobals "_law_number" = some (some (.ref f__law_number)))
    (l__law_number : K.lookup f__law_number = some ⟨oc__law_number, od__law_number, .func (PySem.W.fnOf "_law_number" "_law_number" (defArgs s__law_number) (defBody s__law_number) (defScope s__law_number) .none kV__law_number dc__law_number pm__law_number an__law_number cd__law_number ct__law_number), sl__law_number⟩)
    (c__law_number : PySem.W.codeIn K cd__law_number "_law_number" = true)
    (k__law_number : PySem.W.keepIn K (.ref f__law_number) = true)
    (a__law_constant : PySem.W.nsIn K mainGlobals "_law_constant" = some (some (.ref f__law_constant)))
    (l__law_constant : K.lookup f__law_constant = some ⟨oc__law_constant, od__law_constant, .func (PySem.W.fnOf "_law_constant" "_law_constant" (defArgs s__law_constant) (defBody s__law_constant) (defScope s__law_constant) .none kV__law_constant dc__law_constant pm__law_constant an__law_constant cd__law_constant ct__law_constant), sl__law_constant⟩)
    (c__law_constant : PySem.W.codeIn K cd__law_constant "_law_constant" = true)
    (k__law_constant : PySem.W.keepIn K (.ref f__law_constant) = true)
    (a__law_names : PySem.W.nsIn K mainGlobals "_law_names" = some (some (.ref f__law_names)))
    (l__law_names : K.lookup f__law_names = some ⟨oc__law_names, od__law_names, .func (PySem.W.fnOf "_law_names" "_law_names" (defArgs s__law_names) (defBody s__law_names) (defScope s__law_names) .none kV__law_names dc__law_names pm__law_names an__law_names cd__law_names ct__law_names), sl__law_names⟩)
    (c__law_names : PySem.W.codeIn K cd__law_names "_law_names" = true)
    (k__law_names : PySem.W.keepIn K (.ref f__law_names) = true)
    (a__law_is_int : PySem.W.nsIn K mainGlobals "_law_is_int" = some (some (.ref f__law_is_int)))
    (l__law_is_int : K.lookup f__law_is_int = some ⟨oc__law_is_int, od__law_is_int, .func (PySem.W.fnOf "_law_is_int" "_law_is_int" (defArgs s__law_is_int) (defBody s__law_is_int) (defScope s__law_is_int) .none kV__law_is_int dc__law_is_int pm__law_is_int an__law_is_int cd__law_is_int ct__law_is_int), sl__law_is_int⟩)
    (c__law_is_int : PySem.W.codeIn K cd__law_is_int "_law_is_int" = true)
    (k__law_is_int : PySem.W.keepIn K (.ref f__law_is_int) = true)
    (a__law_same : PySem.W.nsIn K mainGlobals "_law_same" = some (some (.ref f__law_same)))
    (l__law_same : K.lookup f__law_same = some ⟨oc__law_same, od__law_same, .func (PySem.W.fnOf "_law_same" "_law_same" (defArgs s__law_same) (defBody s__law_same) (defScope s__law_same) .none kV__law_same dc__law_same pm__law_same an__law_same cd__law_same ct__law_same), sl__law_same⟩)
    (c__law_same : PySem.W.codeIn K cd__law_same "_law_same" = true)
    (k__law_same : PySem.W.keepIn K (.ref f__law_same) = true)
    (a__law_sorted : PySem.W.nsIn K mainGlobals "_law_sorted" = some (some (.ref f__law_sorted)))
    (l__law_sorted : K.lookup f__law_sorted = some ⟨oc__law_sorted, od__law_sorted, .func (PySem.W.fnOf "_law_sorted" "_law_sorted" (defArgs s__law_sorted) (defBody s__law_sorted) (defScope s__law_sorted) .none kV__law_sorted dc__law_sorted pm__law_sorted an__law_sorted cd__law_sorted ct__law_sorted), sl__law_sorted⟩)
    (c__law_sorted : PySem.W.codeIn K cd__law_sorted "_law_sorted" = true)
    (k__law_sorted : PySem.W.keepIn K (.ref f__law_sorted) = true)
    (a__law_compared : PySem.W.nsIn K mainGlobals "_law_compared" = some (some (.ref f__law_compared)))
    (l__law_compared : K.lookup f__law_compared = some ⟨oc__law_compared, od__law_compared, .func (PySem.W.fnOf "_law_compared" "_law_compared" (defArgs s__law_compared) (defBody s__law_compared) (defScope s__law_compared) .none kV__law_compared dc__law_compared pm__law_compared an__law_compared cd__law_compared ct__law_compared), sl__law_compared⟩)
    (c__law_compared : PySem.W.codeIn K cd__law_compared "_law_compared" = true)
    (k__law_compared : PySem.W.keepIn K (.ref f__law_compared) = true)
    (sg_Condition_compare : PySem.W.findCls K (.ref a_Condition) (.type "type") "compare" = some (.get (.builtin "staticmethod.__get__") (.ref p_Condition_compare) .none (.ref a_Condition)))
    (sr_Condition_compare : PySem.W.recIn K p_Condition_compare "staticmethod" = some (.ref f_Condition_compare :: r_Condition_compare))
    (l_Condition_compare : K.lookup f_Condition_compare = some ⟨oc_Condition_compare, od_Condition_compare, .func (PySem.W.fnOf "compare" "Condition.compare" (defArgs s_Condition_compare) (defBody s_Condition_compare) (defScope s_Condition_compare) .none kV_Condition_compare dc_Condition_compare pm_Condition_compare an_Condition_compare cd_Condition_compare ct_Condition_compare), sl_Condition_compare⟩)
    (c_Condition_compare : PySem.W.codeIn K cd_Condition_compare "Condition.compare" = true)
    (k_Condition_compare : PySem.W.keepIn K (.ref f_Condition_compare) = true)
    (sg_Condition_always : PySem.W.findCls K (.ref a_Condition) (.type "type") "always" = some (.get (.builtin "staticmethod.__get__") (.ref p_Condition_always) .none (.ref a_Condition)))
    (sr_Condition_always : PySem.W.recIn K p_Condition_always "staticmethod" = some (.ref f_Condition_always :: r_Condition_always))
    (l_Condition_always : K.lookup f_Condition_always = some ⟨oc_Condition_always, od_Condition_always, .func (PySem.W.fnOf "always" "Condition.always" (defArgs s_Condition_always) (defBody s_Condition_always) (defScope s_Condition_always) .none kV_Condition_always dc_Condition_always pm_Condition_always an_Condition_always cd_Condition_always ct_Condition_always), sl_Condition_always⟩)
    (c_Condition_always : PySem.W.codeIn K cd_Condition_always "Condition.always" = true)
    (k_Condition_always : PySem.W.keepIn K (.ref f_Condition_always) = true)
    (sg_Condition_never : PySem.W.findCls K (.ref a_Condition) (.type "type") "never" = some (.get (.builtin "staticmethod.__get__") (.ref p_Condition_never) .none (.ref a_Condition)))
    (sr_Condition_never : PySem.W.recIn K p_Condition_never "staticmethod" = some (.ref f_Condition_never :: r_Condition_never))
    (l_Condition_never : K.lookup f_Condition_never = some ⟨oc_Condition_never, od_Condition_never, .func (PySem.W.fnOf "never" "Condition.never" (defArgs s_Condition_never) (defBody s_Condition_never) (defScope s_Condition_never) .none kV_Condition_never dc_Condition_never pm_Condition_never an_Condition_never cd_Condition_never ct_Condition_never), sl_Condition_never⟩)
    (c_Condition_never : PySem.W.codeIn K cd_Condition_never "Condition.never" = true)
    (k_Condition_never : PySem.W.keepIn K (.ref f_Condition_never) = true)
    (fa_Condition___and__ : PySem.W.findIn K (.ref a_Condition) "__and__" = some (some (.ref f_Condition___and__)))
    (fn_Condition___and__ : PySem.W.isFn K (.ref f_Condition___and__) = true)
    (l_Condition___and__ : K.lookup f_Condition___and__ = some ⟨oc_Condition___and__, od_Condition___and__, .func (PySem.W.fnOf "__and__" "Condition.__and__" (defArgs s_Condition___and__) (defBody s_Condition___and__) (defScope s_Condition___and__) .none kV_Condition___and__ dc_Condition___and__ pm_Condition___and__ an_Condition___and__ cd_Condition___and__ ct_Condition___and__), sl_Condition___and__⟩)
    (c_Condition___and__ : PySem.W.codeIn K cd_Condition___and__ "Condition.__and__" = true)
    (k_Condition___and__ : PySem.W.keepIn K (.ref f_Condition___and__) = true)
    (fa_Condition___or__ : PySem.W.findIn K (.ref a_Condition) "__or__" = some (some (.ref f_Condition___or__)))
    (fn_Condition___or__ : PySem.W.isFn K (.ref f_Condition___or__) = true)
    (l_Condition___or__ : K.lookup f_Condition___or__ = some ⟨oc_Condition___or__, od_Condition___or__, .func (PySem.W.fnOf "__or__" "Condition.__or__" (defArgs s_Condition___or__) (defBody s_Condition___or__) (defScope s_Condition___or__) .none kV_Condition___or__ dc_Condition___or__ pm_Condition___or__ an_Condition___or__ cd_Condition___or__ ct_Condition___or__), sl_Condition___or__⟩)
    (c_Condition___or__ : PySem.W.codeIn K cd_Condition___or__ "Condition.__or__" = true)
    (k_Condition___or__ : PySem.W.keepIn K (.ref f_Condition___or__) = true)
    (a__law_condition : PySem.W.nsIn K mainGlobals "_law_condition" = some (some (.ref f__law_condition)))
    (l__law_condition : K.lookup f__law_condition = some ⟨oc__law_condition, od__law_condition, .func (PySem.W.fnOf "_law_condition" "_law_condition" (defArgs s__law_condition) (defBody s__law_condition) (defScope s__law_condition) .none kV__law_condition dc__law_condition pm__law_condition an__law_condition cd__law_condition ct__law_condition), sl__law_condition⟩)
    (c__law_condition : PySem.W.codeIn K cd__law_condition "_law_condition" = true)
    (k__law_condition : PySem.W.keepIn K (.ref f__law_condition) = true)
    (a__law_leaves : PySem.W.nsIn K mainGlobals "_law_leaves" = some (some (.ref f__law_leaves)))
    (l__law_leaves : K.lookup f__law_leaves = some ⟨oc__law_leaves, od__law_leaves, .func (PySem.W.fnOf "_law_leaves" "_law_leaves" (defArgs s__law_leaves) (defBody s__law_leaves) (defScope s__law_leaves) .none kV__law_leaves dc__law_leaves pm__law_leaves an__law_leaves cd__law_leaves ct__law_leaves), sl__law_leaves⟩)
    (c__law_leaves : PySem.W.codeIn K cd__law_leaves "_law_leaves" = true)
    (k__law_leaves : PySem.W.keepIn K (.ref f__law_leaves) = true)
    (a__law_grown : PySem.W.nsIn K mainGlobals "_law_grown" = some (some (.ref f__law_grown)))
    (l__law_grown : K.lookup f__law_grown = some ⟨oc__law_grown, od__law_grown, .func (PySem.W.fnOf "_law_grown" "_law_grown" (defArgs s__law_grown) (defBody s__law_grown) (defScope s__law_grown) .none kV__law_grown dc__law_grown pm__law_grown an__law_grown cd__law_grown ct__law_grown), sl__law_grown⟩)
    (c__law_grown : PySem.W.codeIn K cd__law_grown "_law_grown" = true)
    (k__law_grown : PySem.W.keepIn K (.ref f__law_grown) = true)
    (a__law_opposite : PySem.W.nsIn K mainGlobals "_law_opposite" = some (some (.ref f__law_opposite)))
    (l__law_opposite : K.lookup f__law_opposite = some ⟨oc__law_opposite, od__law_opposite, .func (PySem.W.fnOf "_law_opposite" "_law_opposite" (defArgs s__law_opposite) (defBody s__law_opposite) (defScope s__law_opposite) .none kV__law_opposite dc__law_opposite pm__law_opposite an__law_opposite cd__law_opposite ct__law_opposite), sl__law_opposite⟩)
    (c__law_opposite : PySem.W.codeIn K cd__law_opposite "_law_opposite" = true)
    (k__law_opposite : PySem.W.keepIn K (.ref f__law_opposite) = true)
    (a__law_field_names : PySem.W.nsIn K mainGlobals "_law_field_names" = some (some (.ref f__law_field_names)))
    (l__law_field_names : K.lookup f__law_field_names = some ⟨oc__law_field_names, od__law_field_names, .func (PySem.W.fnOf "_law_field_names" "_law_field_names" (defArgs s__law_field_names) (defBody s__law_field_names) (defScope s__law_field_names) .none kV__law_field_names dc__law_field_names pm__law_field_names an__law_field_names cd__law_field_names ct__law_field_names), sl__law_field_names⟩)
    (c__law_field_names : PySem.W.codeIn K cd__law_field_names "_law_field_names" = true)
    (k__law_field_names : PySem.W.keepIn K (.ref f__law_field_names) = true)
    (a__law_joined_due : PySem.W.nsIn K mainGlobals "_law_joined_due" = some (some (.ref f__law_joined_due)))
    (l__law_joined_due : K.lookup f__law_joined_due = some ⟨oc__law_joined_due, od__law_joined_due, .func (PySem.W.fnOf "_law_joined_due" "_law_joined_due" (defArgs s__law_joined_due) (defBody s__law_joined_due) (defScope s__law_joined_due) .none kV__law_joined_due dc__law_joined_due pm__law_joined_due an__law_joined_due cd__law_joined_due ct__law_joined_due), sl__law_joined_due⟩)
    (c__law_joined_due : PySem.W.codeIn K cd__law_joined_due "_law_joined_due" = true)
    (k__law_joined_due : PySem.W.keepIn K (.ref f__law_joined_due) = true)
    (a__law_do : PySem.W.nsIn K mainGlobals "_law_do" = some (some (.ref f__law_do)))
    (l__law_do : K.lookup f__law_do = some ⟨oc__law_do, od__law_do, .func (PySem.W.fnOf "_law_do" "_law_do" (defArgs s__law_do) (defBody s__law_do) (defScope s__law_do) .none kV__law_do dc__law_do pm__law_do an__law_do cd__law_do ct__law_do), sl__law_do⟩)
    (c__law_do : PySem.W.codeIn K cd__law_do "_law_do" = true)
    (k__law_do : PySem.W.keepIn K (.ref f__law_do) = true)
    (pa_Condition_fields : PySem.W.findIn K (.ref a_Condition) "fields" = some (some (.ref p_Condition_fields)))
    (ps_Condition_fields : PySem.W.specialIn K (.ref p_Condition_fields) "__get__" = some (some (.builtin "property.__get__")))
    (pt_Condition_fields : PySem.W.takesIn K (.ref p_Condition_fields) = some true)
    (pr_Condition_fields : PySem.W.recIn K p_Condition_fields "property" = some (.ref f_Condition_fields :: r_Condition_fields))
    (l_Condition_fields : K.lookup f_Condition_fields = some ⟨oc_Condition_fields, od_Condition_fields, .func (PySem.W.fnOf "fields" "Condition.fields" (defArgs s_Condition_fields) (defBody s_Condition_fields) (defScope s_Condition_fields) .none kV_Condition_fields dc_Condition_fields pm_Condition_fields an_Condition_fields cd_Condition_fields ct_Condition_fields), sl_Condition_fields⟩)
    (c_Condition_fields : PySem.W.codeIn K cd_Condition_fields "Condition.fields" = true)
    (k_Condition_fields : PySem.W.keepIn K (.ref f_Condition_fields) = true)
    (pa_Condition_size : PySem.W.findIn K (.ref a_Condition) "size" = some (some (.ref p_Condition_size)))
    (ps_Condition_size : PySem.W.specialIn K (.ref p_Condition_size) "__get__" = some (some (.builtin "property.__get__")))
    (pt_Condition_size : PySem.W.takesIn K (.ref p_Condition_size) = some true)
    (pr_Condition_size : PySem.W.recIn K p_Condition_size "property" = some (.ref f_Condition_size :: r_Condition_size))
    (l_Condition_size : K.lookup f_Condition_size = some ⟨oc_Condition_size, od_Condition_size, .func (PySem.W.fnOf "size" "Condition.size" (defArgs s_Condition_size) (defBody s_Condition_size) (defScope s_Condition_size) .none kV_Condition_size dc_Condition_size pm_Condition_size an_Condition_size cd_Condition_size ct_Condition_size), sl_Condition_size⟩)
    (c_Condition_size : PySem.W.codeIn K cd_Condition_size "Condition.size" = true)
    (k_Condition_size : PySem.W.keepIn K (.ref f_Condition_size) = true)
    (fa_Condition___invert__ : PySem.W.findIn K (.ref a_Condition) "__invert__" = some (some (.ref f_Condition___invert__)))
    (fn_Condition___invert__ : PySem.W.isFn K (.ref f_Condition___invert__) = true)
    (l_Condition___invert__ : K.lookup f_Condition___invert__ = some ⟨oc_Condition___invert__, od_Condition___invert__, .func (PySem.W.fnOf "__invert__" "Condition.__invert__" (defArgs s_Condition___invert__) (defBody s_Condition___invert__) (defScope s_Condition___invert__) .none kV_Condition___invert__ dc_Condition___invert__ pm_Condition___invert__ an_Condition___invert__ cd_Condition___invert__ ct_Condition___invert__), sl_Condition___invert__⟩)
    (c_Condition___invert__ : PySem.W.codeIn K cd_Condition___invert__ "Condition.__invert__" = true)
    (k_Condition___invert__ : PySem.W.keepIn K (.ref f_Condition___invert__) = true)
    (a__law_is : PySem.W.nsIn K mainGlobals "_law_is" = some (some (.ref f__law_is)))
    (l__law_is : K.lookup f__law_is = some ⟨oc__law_is, od__law_is, .func (PySem.W.fnOf "_law_is" "_law_is" (defArgs s__law_is) (defBody s__law_is) (defScope s__law_is) .none kV__law_is dc__law_is pm__law_is an__law_is cd__law_is ct__law_is), sl__law_is⟩)
    (c__law_is : PySem.W.codeIn K cd__law_is "_law_is" = true)
    (k__law_is : PySem.W.keepIn K (.ref f__law_is) = true)
    (a_law : PySem.W.nsIn K mainGlobals "law" = some (some (.ref f_law)))
    (l_law : K.lookup f_law = some ⟨oc_law, od_law, .func (PySem.W.fnOf "law" "law" (defArgs s_law) (defBody s_law) (defScope s_law) .none kV_law dc_law pm_law an_law cd_law ct_law), sl_law⟩)
    (c_law : PySem.W.codeIn K cd_law "law" = true)
    (k_law : PySem.W.keepIn K (.ref f_law) = true)
    (z_ValueError : PySem.W.nsIn K mainGlobals "ValueError" = some none)
    (z_all : PySem.W.nsIn K mainGlobals "all" = some none)
    (z_bool : PySem.W.nsIn K mainGlobals "bool" = some none)
    (z_dict : PySem.W.nsIn K mainGlobals "dict" = some none)
    (z_int : PySem.W.nsIn K mainGlobals "int" = some none)
    (z_isinstance : PySem.W.nsIn K mainGlobals "isinstance" = some none)
    (z_len : PySem.W.nsIn K mainGlobals "len" = some none)
    (z_list : PySem.W.nsIn K mainGlobals "list" = some none)
    (z_property : PySem.W.nsIn K mainGlobals "property" = some none)
    (z_range : PySem.W.nsIn K mainGlobals "range" = some none)
    (z_sorted : PySem.W.nsIn K mainGlobals "sorted" = some none)
    (z_staticmethod : PySem.W.nsIn K mainGlobals "staticmethod" = some none)
    (z_str : PySem.W.nsIn K mainGlobals "str" = some none)
    (z_super : PySem.W.nsIn K mainGlobals "super" = some none)
    (z_tuple : PySem.W.nsIn K mainGlobals "tuple" = some none)
    (g_BOUND : PySem.W.nsIn K mainGlobals "BOUND" = some (some (.int 1000000000000000000000000000000 t_BOUND)))
    (g_LETTERS : PySem.W.nsIn K mainGlobals "LETTERS" = some (some (.str "abcdefghijklmnopqrstuvwxyz" t_LETTERS)))
    (g_LONGEST_NAME : PySem.W.nsIn K mainGlobals "LONGEST_NAME" = some (some (.int 12 t_LONGEST_NAME)))
    (g_ALWAYS : PySem.W.nsIn K mainGlobals "ALWAYS" = some (some (.ref a_ALWAYS)))
    (l_ALWAYS : K.lookup a_ALWAYS = some ⟨.type "tuple", od_ALWAYS, .seq its_ALWAYS n_ALWAYS, sl_ALWAYS⟩)
    (v_ALWAYS : Vals [(.str "always")] its_ALWAYS.toList)
    (g_NEVER : PySem.W.nsIn K mainGlobals "NEVER" = some (some (.ref a_NEVER)))
    (l_NEVER : K.lookup a_NEVER = some ⟨.type "tuple", od_NEVER, .seq its_NEVER n_NEVER, sl_NEVER⟩)
    (v_NEVER : Vals [(.str "never")] its_NEVER.toList)
    (g_OPPOSITES : PySem.W.nsIn K mainGlobals "OPPOSITES" = some (some (.ref a_OPPOSITES)))
    (g_RESERVED : PySem.W.nsIn K mainGlobals "RESERVED" = some (some (.ref a_RESERVED)))
    (l_RESERVED : K.lookup a_RESERVED = some ⟨.type "tuple", od_RESERVED, .seq its_RESERVED n_RESERVED, sl_RESERVED⟩)
    (v_RESERVED : Vals [(.str "always"), (.str "never"), (.str "and"), (.str "or"), (.str "not"), (.str "when"), (.str "add"), (.str "set"), (.str "change"), (.str "tell"), (.str "refuse"), (.str "take"), (.str "look"), (.str "free"), (.str "lock"), (.str "keep"), (.str "keys"), (.str "fields")] its_RESERVED.toList)
    (g_SIGNS : PySem.W.nsIn K mainGlobals "SIGNS" = some (some (.ref a_SIGNS)))
    (l_SIGNS : K.lookup a_SIGNS = some ⟨.type "tuple", od_SIGNS, .seq its_SIGNS n_SIGNS, sl_SIGNS⟩)
    (v_SIGNS : Vals [(.str "<"), (.str "<="), (.str "=="), (.str "!="), (.str ">="), (.str ">")] its_SIGNS.toList)
    (g_BadName : PySem.W.nsIn K mainGlobals "BadName" = some (some (.ref a_BadName)))
    (g_BadNumber : PySem.W.nsIn K mainGlobals "BadNumber" = some (some (.ref a_BadNumber)))
    (g_BadSign : PySem.W.nsIn K mainGlobals "BadSign" = some (some (.ref a_BadSign)))
    (g_ElseputError : PySem.W.nsIn K mainGlobals "ElseputError" = some (some (.ref a_ElseputError)))
    (g_TooLarge : PySem.W.nsIn K mainGlobals "TooLarge" = some (some (.ref a_TooLarge)))
    (st_any : PySem.W.nsIn K PySem.cStatics "thirdparty.any" = some none)
    (htop : (l.prog.main.scope.names.lookup ("super" : Str)).isSome = false)
    (xc_BadName : K.lookup a_BadName = some (excClassObj nm_BadName q_BadName a_BadName N_BadName bs_BadName bm_BadName true sn_BadName sub_BadName ab_BadName col_BadName dd_BadName e0_BadName e1_BadName e2_BadName e3_BadName e5_BadName "ValueError.__new__"))
    (ref_BadName : PySem.HandSPX.refsVE bm_BadName = true)
    (sa_BadName : PySem.W.findIn K (.ref a_BadName) "__setattr__" = some (some (.builtin "object.__setattr__")))
    (eb_BadName : PySem.W.subIn K (.ref a_BadName) (.type "BaseException") = some true)
    (ty_BadName : PySem.W.typeIn K (.ref a_BadName) = some (.type "type"))
    (kC_BadName : PySem.W.keepIn K (.ref a_BadName) = true)
    (iC_BadName : PySem.W.findIn K (.ref a_BadName) "__init__" = some (some (.ref f_BadName)))
    (tI_BadName : PySem.W.typeIn K (.ref f_BadName) = some (.type "function"))
    (sup_BadName : PySem.W.ks_superIn K a_BadName a_BadName "__init__" = some (some (.builtin "ValueError.__init__")))
    (sv_BadName : PySem.W.subIn K (.ref a_BadName) (.type "ValueError") = some true)
    (mro_BadName : PySem.W.mroIn K a_BadName (.ref a_BadName) = some true)
    (no0_BadName : PySem.W.findIn K (.ref a_BadName) "name" = some none)
    (ga_BadName : PySem.W.findIn K (.ref a_BadName) "__getattribute__" = some (some (.builtin "BaseException.__getattribute__")))
    (gg_BadName : PySem.W.findIn K (.ref a_BadName) "__getattr__" = some none)
    (hd_BadName : PySem.W.hasDictIn K a_BadName = true)
    (hcl_BadName : PySem.W.findIn K (.ref a_BadName) "__class__" = some (some (.builtin "object.__class__")))
    (hn_BadName : PySem.W.specialIn K (.builtin "object.__class__") "__get__" = some (some (.builtin "getset_descriptor.__get__")))
    (ht_BadName : PySem.W.takesIn K (.builtin "object.__class__") = some true)
    (hm_BadName : PySem.W.mroIn K a_BadName (.type "object") = some true)
    (lf_BadName : K.lookup f_BadName = some ⟨oc_BadName, od_BadName, .func (PySem.W.fnX "__init__" "BadName.__init__" (defArgs s_BadName) (defBody s_BadName) (defScope s_BadName) [("__class__", cc_BadName)] .none .none doc_BadName pm_BadName none (.ref cda_BadName) ct_BadName), osl_BadName⟩)
    (cd_BadName : PySem.W.codeIn K (.ref cda_BadName) "BadName.__init__" = true)
    (lc_BadName : K.lookup cda_BadName = some ⟨ccl_BadName, cdd_BadName, .fields vs_BadName, ccs_BadName⟩)
    (v2_BadName : vs_BadName[2]? = some (.str file_BadName tf_BadName))
    (fe_BadName : ((l.prog.main.file : Str) == file_BadName) = true)
    (lcc_BadName : K.lookup cc_BadName = some ⟨cl_BadName, cld_BadName, .cell (some (.ref a_BadName)), csl_BadName⟩)
    (hD_BadName : PySem.W.clsIn K a_BadName = some cdD_BadName)
    (xc_BadNumber : K.lookup a_BadNumber = some (excClassObj nm_BadNumber q_BadNumber a_BadNumber N_BadNumber bs_BadNumber bm_BadNumber true sn_BadNumber sub_BadNumber ab_BadNumber col_BadNumber dd_BadNumber e0_BadNumber e1_BadNumber e2_BadNumber e3_BadNumber e5_BadNumber "ValueError.__new__"))
    (ref_BadNumber : PySem.HandSPX.refsVE bm_BadNumber = true)
    (sa_BadNumber : PySem.W.findIn K (.ref a_BadNumber) "__setattr__" = some (some (.builtin "object.__setattr__")))
    (eb_BadNumber : PySem.W.subIn K (.ref a_BadNumber) (.type "BaseException") = some true)
    (ty_BadNumber : PySem.W.typeIn K (.ref a_BadNumber) = some (.type "type"))
    (kC_BadNumber : PySem.W.keepIn K (.ref a_BadNumber) = true)
    (iC_BadNumber : PySem.W.findIn K (.ref a_BadNumber) "__init__" = some (some (.ref f_BadNumber)))
    (tI_BadNumber : PySem.W.typeIn K (.ref f_BadNumber) = some (.type "function"))
    (sup_BadNumber : PySem.W.ks_superIn K a_BadNumber a_BadNumber "__init__" = some (some (.builtin "ValueError.__init__")))
    (sv_BadNumber : PySem.W.subIn K (.ref a_BadNumber) (.type "ValueError") = some true)
    (mro_BadNumber : PySem.W.mroIn K a_BadNumber (.ref a_BadNumber) = some true)
    (no0_BadNumber : PySem.W.findIn K (.ref a_BadNumber) "value" = some none)
    (ga_BadNumber : PySem.W.findIn K (.ref a_BadNumber) "__getattribute__" = some (some (.builtin "BaseException.__getattribute__")))
    (gg_BadNumber : PySem.W.findIn K (.ref a_BadNumber) "__getattr__" = some none)
    (hd_BadNumber : PySem.W.hasDictIn K a_BadNumber = true)
    (hcl_BadNumber : PySem.W.findIn K (.ref a_BadNumber) "__class__" = some (some (.builtin "object.__class__")))
    (hn_BadNumber : PySem.W.specialIn K (.builtin "object.__class__") "__get__" = some (some (.builtin "getset_descriptor.__get__")))
    (ht_BadNumber : PySem.W.takesIn K (.builtin "object.__class__") = some true)
    (hm_BadNumber : PySem.W.mroIn K a_BadNumber (.type "object") = some true)
    (lf_BadNumber : K.lookup f_BadNumber = some ⟨oc_BadNumber, od_BadNumber, .func (PySem.W.fnX "__init__" "BadNumber.__init__" (defArgs s_BadNumber) (defBody s_BadNumber) (defScope s_BadNumber) [("__class__", cc_BadNumber)] .none .none doc_BadNumber pm_BadNumber none (.ref cda_BadNumber) ct_BadNumber), osl_BadNumber⟩)
    (cd_BadNumber : PySem.W.codeIn K (.ref cda_BadNumber) "BadNumber.__init__" = true)
    (lc_BadNumber : K.lookup cda_BadNumber = some ⟨ccl_BadNumber, cdd_BadNumber, .fields vs_BadNumber, ccs_BadNumber⟩)
    (v2_BadNumber : vs_BadNumber[2]? = some (.str file_BadNumber tf_BadNumber))
    (fe_BadNumber : ((l.prog.main.file : Str) == file_BadNumber) = true)
    (lcc_BadNumber : K.lookup cc_BadNumber = some ⟨cl_BadNumber, cld_BadNumber, .cell (some (.ref a_BadNumber)), csl_BadNumber⟩)
    (hD_BadNumber : PySem.W.clsIn K a_BadNumber = some cdD_BadNumber)
    (xc_BadSign : K.lookup a_BadSign = some (excClassObj nm_BadSign q_BadSign a_BadSign N_BadSign bs_BadSign bm_BadSign true sn_BadSign sub_BadSign ab_BadSign col_BadSign dd_BadSign e0_BadSign e1_BadSign e2_BadSign e3_BadSign e5_BadSign "ValueError.__new__"))
    (ref_BadSign : PySem.HandSPX.refsVE bm_BadSign = true)
    (sa_BadSign : PySem.W.findIn K (.ref a_BadSign) "__setattr__" = some (some (.builtin "object.__setattr__")))
    (eb_BadSign : PySem.W.subIn K (.ref a_BadSign) (.type "BaseException") = some true)
    (ty_BadSign : PySem.W.typeIn K (.ref a_BadSign) = some (.type "type"))
    (kC_BadSign : PySem.W.keepIn K (.ref a_BadSign) = true)
    (iC_BadSign : PySem.W.findIn K (.ref a_BadSign) "__init__" = some (some (.ref f_BadSign)))
    (tI_BadSign : PySem.W.typeIn K (.ref f_BadSign) = some (.type "function"))
    (sup_BadSign : PySem.W.ks_superIn K a_BadSign a_BadSign "__init__" = some (some (.builtin "ValueError.__init__")))
    (sv_BadSign : PySem.W.subIn K (.ref a_BadSign) (.type "ValueError") = some true)
    (mro_BadSign : PySem.W.mroIn K a_BadSign (.ref a_BadSign) = some true)
    (no0_BadSign : PySem.W.findIn K (.ref a_BadSign) "sign" = some none)
    (ga_BadSign : PySem.W.findIn K (.ref a_BadSign) "__getattribute__" = some (some (.builtin "BaseException.__getattribute__")))
    (gg_BadSign : PySem.W.findIn K (.ref a_BadSign) "__getattr__" = some none)
    (hd_BadSign : PySem.W.hasDictIn K a_BadSign = true)
    (hcl_BadSign : PySem.W.findIn K (.ref a_BadSign) "__class__" = some (some (.builtin "object.__class__")))
    (hn_BadSign : PySem.W.specialIn K (.builtin "object.__class__") "__get__" = some (some (.builtin "getset_descriptor.__get__")))
    (ht_BadSign : PySem.W.takesIn K (.builtin "object.__class__") = some true)
    (hm_BadSign : PySem.W.mroIn K a_BadSign (.type "object") = some true)
    (lf_BadSign : K.lookup f_BadSign = some ⟨oc_BadSign, od_BadSign, .func (PySem.W.fnX "__init__" "BadSign.__init__" (defArgs s_BadSign) (defBody s_BadSign) (defScope s_BadSign) [("__class__", cc_BadSign)] .none .none doc_BadSign pm_BadSign none (.ref cda_BadSign) ct_BadSign), osl_BadSign⟩)
    (cd_BadSign : PySem.W.codeIn K (.ref cda_BadSign) "BadSign.__init__" = true)
    (lc_BadSign : K.lookup cda_BadSign = some ⟨ccl_BadSign, cdd_BadSign, .fields vs_BadSign, ccs_BadSign⟩)
    (v2_BadSign : vs_BadSign[2]? = some (.str file_BadSign tf_BadSign))
    (fe_BadSign : ((l.prog.main.file : Str) == file_BadSign) = true)
    (lcc_BadSign : K.lookup cc_BadSign = some ⟨cl_BadSign, cld_BadSign, .cell (some (.ref a_BadSign)), csl_BadSign⟩)
    (hD_BadSign : PySem.W.clsIn K a_BadSign = some cdD_BadSign)
    (xc_TooLarge : K.lookup a_TooLarge = some (excClassObj nm_TooLarge q_TooLarge a_TooLarge N_TooLarge bs_TooLarge bm_TooLarge true sn_TooLarge sub_TooLarge ab_TooLarge col_TooLarge dd_TooLarge e0_TooLarge e1_TooLarge e2_TooLarge e3_TooLarge e5_TooLarge "ValueError.__new__"))
    (ref_TooLarge : PySem.HandSPX.refsVE bm_TooLarge = true)
    (sa_TooLarge : PySem.W.findIn K (.ref a_TooLarge) "__setattr__" = some (some (.builtin "object.__setattr__")))
    (eb_TooLarge : PySem.W.subIn K (.ref a_TooLarge) (.type "BaseException") = some true)
    (ty_TooLarge : PySem.W.typeIn K (.ref a_TooLarge) = some (.type "type"))
    (kC_TooLarge : PySem.W.keepIn K (.ref a_TooLarge) = true)
    (iC_TooLarge : PySem.W.findIn K (.ref a_TooLarge) "__init__" = some (some (.ref f_TooLarge)))
    (tI_TooLarge : PySem.W.typeIn K (.ref f_TooLarge) = some (.type "function"))
    (sup_TooLarge : PySem.W.ks_superIn K a_TooLarge a_TooLarge "__init__" = some (some (.builtin "ValueError.__init__")))
    (sv_TooLarge : PySem.W.subIn K (.ref a_TooLarge) (.type "ValueError") = some true)
    (mro_TooLarge : PySem.W.mroIn K a_TooLarge (.ref a_TooLarge) = some true)
    (no0_TooLarge : PySem.W.findIn K (.ref a_TooLarge) "most" = some none)
    (ga_TooLarge : PySem.W.findIn K (.ref a_TooLarge) "__getattribute__" = some (some (.builtin "BaseException.__getattribute__")))
    (gg_TooLarge : PySem.W.findIn K (.ref a_TooLarge) "__getattr__" = some none)
    (hd_TooLarge : PySem.W.hasDictIn K a_TooLarge = true)
    (hcl_TooLarge : PySem.W.findIn K (.ref a_TooLarge) "__class__" = some (some (.builtin "object.__class__")))
    (hn_TooLarge : PySem.W.specialIn K (.builtin "object.__class__") "__get__" = some (some (.builtin "getset_descriptor.__get__")))
    (ht_TooLarge : PySem.W.takesIn K (.builtin "object.__class__") = some true)
    (hm_TooLarge : PySem.W.mroIn K a_TooLarge (.type "object") = some true)
    (lf_TooLarge : K.lookup f_TooLarge = some ⟨oc_TooLarge, od_TooLarge, .func (PySem.W.fnX "__init__" "TooLarge.__init__" (defArgs s_TooLarge) (defBody s_TooLarge) (defScope s_TooLarge) [("__class__", cc_TooLarge)] .none .none doc_TooLarge pm_TooLarge none (.ref cda_TooLarge) ct_TooLarge), osl_TooLarge⟩)
    (cd_TooLarge : PySem.W.codeIn K (.ref cda_TooLarge) "TooLarge.__init__" = true)
    (lc_TooLarge : K.lookup cda_TooLarge = some ⟨ccl_TooLarge, cdd_TooLarge, .fields vs_TooLarge, ccs_TooLarge⟩)
    (v2_TooLarge : vs_TooLarge[2]? = some (.str file_TooLarge tf_TooLarge))
    (fe_TooLarge : ((l.prog.main.file : Str) == file_TooLarge) = true)
    (lcc_TooLarge : K.lookup cc_TooLarge = some ⟨cl_TooLarge, cld_TooLarge, .cell (some (.ref a_TooLarge)), csl_TooLarge⟩)
    (hD_TooLarge : PySem.W.clsIn K a_TooLarge = some cdD_TooLarge)
    (mb_ElseputError : PySem.W.subIn K (.ref a_ElseputError) (.type "BaseException") = some true)
    (md_ElseputError : PySem.W.hasDictIn K a_ElseputError = true)
    (mt_ElseputError : PySem.W.typeIn K (.ref a_ElseputError) = some (.type "type"))
    (ms_BadName_ElseputError : PySem.W.subIn K (.ref a_BadName) (.ref a_ElseputError) = some true)
    (ms_BadNumber_ElseputError : PySem.W.subIn K (.ref a_BadNumber) (.ref a_ElseputError) = some true)
    (ms_BadSign_ElseputError : PySem.W.subIn K (.ref a_BadSign) (.ref a_ElseputError) = some true)
    (ms_TooLarge_ElseputError : PySem.W.subIn K (.ref a_TooLarge) (.ref a_ElseputError) = some true)
    (kit_BadName_TooLarge : PySem.W.kitOne K (.ref a_BadName) (.ref a_TooLarge) = some false)
    (kit_BadName_ValueError : PySem.W.kitOne K (.ref a_BadName) (.type "ValueError") = some true)
    (kit_BadName_BadNumber : PySem.W.kitOne K (.ref a_BadName) (.ref a_BadNumber) = some false)
    (kit_BadNumber_TooLarge : PySem.W.kitOne K (.ref a_BadNumber) (.ref a_TooLarge) = some false)
    (kit_BadNumber_ValueError : PySem.W.kitOne K (.ref a_BadNumber) (.type "ValueError") = some true)
    (kit_BadNumber_BadNumber : PySem.W.kitOne K (.ref a_BadNumber) (.ref a_BadNumber) = some true)
    (kit_BadSign_TooLarge : PySem.W.kitOne K (.ref a_BadSign) (.ref a_TooLarge) = some false)
    (kit_BadSign_ValueError : PySem.W.kitOne K (.ref a_BadSign) (.type "ValueError") = some true)
    (kit_BadSign_BadNumber : PySem.W.kitOne K (.ref a_BadSign) (.ref a_BadNumber) = some false)
    (kit_TooLarge_TooLarge : PySem.W.kitOne K (.ref a_TooLarge) (.ref a_TooLarge) = some true)
    (kit_TooLarge_ValueError : PySem.W.kitOne K (.ref a_TooLarge) (.type "ValueError") = some true)
    (kit_TooLarge_BadNumber : PySem.W.kitOne K (.ref a_TooLarge) (.ref a_BadNumber) = some false)
    (dl_OPPOSITES : K.lookup a_OPPOSITES = some ⟨.type "dict", none, .dict es_OPPOSITES nd_OPPOSITES, #[]⟩)
    (dk_OPPOSITES : PySem.W.KeysLit w.params es_OPPOSITES.toList)
    (dv_OPPOSITES_0 : PySem.W.nsIn K a_OPPOSITES "<" = some (some (.str ">=" tk_OPPOSITES_0)))
    (dv_OPPOSITES_1 : PySem.W.nsIn K a_OPPOSITES ">=" = some (some (.str "<" tk_OPPOSITES_1)))
    (dv_OPPOSITES_2 : PySem.W.nsIn K a_OPPOSITES "<=" = some (some (.str ">" tk_OPPOSITES_2)))
    (dv_OPPOSITES_3 : PySem.W.nsIn K a_OPPOSITES ">" = some (some (.str "<=" tk_OPPOSITES_3)))
    (dv_OPPOSITES_4 : PySem.W.nsIn K a_OPPOSITES "==" = some (some (.str "!=" tk_OPPOSITES_4)))
    (dv_OPPOSITES_5 : PySem.W.nsIn K a_OPPOSITES "!=" = some (some (.str "==" tk_OPPOSITES_5)))
    : ∃ fd : FuncData, (∀ (s : Shared) (v : Value), BindsTo s fd ⟨[v], []⟩ [("_law_script", v)]) ∧ ∀ base : Heap, K.In base → base.Ns mainGlobals mg → FnOk l.prog w K mg base CX0 60 fa fd ["_law_script"] (spLaw K) := by
  have e := hfa.symm.trans (PySem.W.mg_of X G a_law)
  cases e
  have XK_BadName : ExK K a_BadName f_BadName ["name"] := exk_mk xc_BadName ref_BadName sa_BadName eb_BadName ty_BadName kC_BadName sup_BadName sv_BadName mro_BadName iC_BadName tI_BadName (fun f hf => by simp only [List.mem_cons, List.not_mem_nil, or_false] at hf; subst hf; exact no0_BadName) ga_BadName gg_BadName hd_BadName hcl_BadName hn_BadName ht_BadName hm_BadName
  have XK_BadNumber : ExK K a_BadNumber f_BadNumber ["value"] := exk_mk xc_BadNumber ref_BadNumber sa_BadNumber eb_BadNumber ty_BadNumber kC_BadNumber sup_BadNumber sv_BadNumber mro_BadNumber iC_BadNumber tI_BadNumber (fun f hf => by simp only [List.mem_cons, List.not_mem_nil, or_false] at hf; subst hf; exact no0_BadNumber) ga_BadNumber gg_BadNumber hd_BadNumber hcl_BadNumber hn_BadNumber ht_BadNumber hm_BadNumber
  have XK_BadSign : ExK K a_BadSign f_BadSign ["sign"] := exk_mk xc_BadSign ref_BadSign sa_BadSign eb_BadSign ty_BadSign kC_BadSign sup_BadSign sv_BadSign mro_BadSign iC_BadSign tI_BadSign (fun f hf => by simp only [List.mem_cons, List.not_mem_nil, or_false] at hf; subst hf; exact no0_BadSign) ga_BadSign gg_BadSign hd_BadSign hcl_BadSign hn_BadSign ht_BadSign hm_BadSign
  have XK_TooLarge : ExK K a_TooLarge f_TooLarge ["most"] := exk_mk xc_TooLarge ref_TooLarge sa_TooLarge eb_TooLarge ty_TooLarge kC_TooLarge sup_TooLarge sv_TooLarge mro_TooLarge iC_TooLarge tI_TooLarge (fun f hf => by simp only [List.mem_cons, List.not_mem_nil, or_false] at hf; subst hf; exact no0_TooLarge) ga_TooLarge gg_TooLarge hd_TooLarge hcl_TooLarge hn_TooLarge ht_TooLarge hm_TooLarge
  have T : Gs K mg t_BOUND t_LETTERS t_LONGEST_NAME a_ALWAYS a_NEVER a_OPPOSITES a_RESERVED a_SIGNS a_BadName a_BadNumber a_BadSign a_Condition a_ElseputError a_TooLarge := { z_ValueError := PySem.W.mg_none_of X G z_ValueError, z_all := PySem.W.mg_none_of X G z_all, z_bool := PySem.W.mg_none_of X G z_bool, z_dict := PySem.W.mg_none_of X G z_dict, z_int := PySem.W.mg_none_of X G z_int, z_isinstance := PySem.W.mg_none_of X G z_isinstance, z_len := PySem.W.mg_none_of X G z_len, z_list := PySem.W.mg_none_of X G z_list, z_property := PySem.W.mg_none_of X G z_property, z_range := PySem.W.mg_none_of X G z_range, z_sorted := PySem.W.mg_none_of X G z_sorted, z_staticmethod := PySem.W.mg_none_of X G z_staticmethod, z_str := PySem.W.mg_none_of X G z_str, z_super := PySem.W.mg_none_of X G z_super, z_tuple := PySem.W.mg_none_of X G z_tuple, g_BOUND := PySem.W.mg_of X G g_BOUND, g_LETTERS := PySem.W.mg_of X G g_LETTERS, g_LONGEST_NAME := PySem.W.mg_of X G g_LONGEST_NAME, g_ALWAYS := PySem.W.mg_of X G g_ALWAYS, g_NEVER := PySem.W.mg_of X G g_NEVER, g_OPPOSITES := PySem.W.mg_of X G g_OPPOSITES, g_RESERVED := PySem.W.mg_of X G g_RESERVED, g_SIGNS := PySem.W.mg_of X G g_SIGNS, g_BadName := PySem.W.mg_of X G g_BadName, g_BadNumber := PySem.W.mg_of X G g_BadNumber, g_BadSign := PySem.W.mg_of X G g_BadSign, g_Condition := PySem.W.mg_of X G g_Condition, g_ElseputError := PySem.W.mg_of X G g_ElseputError, g_TooLarge := PySem.W.mg_of X G g_TooLarge, q_ALWAYS := fun _ => .inr ⟨_, _, _, l_ALWAYS, rfl, rfl, (by have e : _ = its_ALWAYS.size := v_ALWAYS.length.trans Array.length_toList; rw [← e]; decide), v_ALWAYS⟩, q_NEVER := fun _ => .inr ⟨_, _, _, l_NEVER, rfl, rfl, (by have e : _ = its_NEVER.size := v_NEVER.length.trans Array.length_toList; rw [← e]; decide), v_NEVER⟩, q_RESERVED := fun _ => .inr ⟨_, _, _, l_RESERVED, rfl, rfl, (by have e : _ = its_RESERVED.size := v_RESERVED.length.trans Array.length_toList; rw [← e]; decide), v_RESERVED⟩, q_SIGNS := fun _ => .inr ⟨_, _, _, l_SIGNS, rfl, rfl, (by have e : _ = its_SIGNS.size := v_SIGNS.length.trans Array.length_toList; rw [← e]; decide), v_SIGNS⟩, n_ElseputError := g_ElseputError, n_BadName := g_BadName, n_BadNumber := g_BadNumber, n_BadSign := g_BadSign, n_TooLarge := g_TooLarge, n_Condition := g_Condition, x_BadName := ⟨XK_BadName.no, XK_BadName.xf, XK_BadName.is⟩, x_BadNumber := ⟨XK_BadNumber.no, XK_BadNumber.xf, XK_BadNumber.is⟩, x_BadSign := ⟨XK_BadSign.no, XK_BadSign.xf, XK_BadSign.is⟩, x_TooLarge := ⟨XK_TooLarge.no, XK_TooLarge.xf, XK_TooLarge.is⟩, cl_Condition := ⟨pg_Condition, hx_Condition, po_Condition, st_Condition⟩, rd_Condition := ⟨rr_Condition, rg_Condition⟩, na_Condition__fields := na_Condition__fields, na_Condition_tree := na_Condition_tree, cv_Condition_MOST := ⟨_, cv_Condition_MOST, ⟨_, rfl⟩⟩, m_BadName_ElseputError := PySem.W.exm_ref mb_ElseputError md_ElseputError mt_ElseputError ms_BadName_ElseputError, m_BadNumber_ElseputError := PySem.W.exm_ref mb_ElseputError md_ElseputError mt_ElseputError ms_BadNumber_ElseputError, m_BadSign_ElseputError := PySem.W.exm_ref mb_ElseputError md_ElseputError mt_ElseputError ms_BadSign_ElseputError, m_TooLarge_ElseputError := PySem.W.exm_ref mb_ElseputError md_ElseputError mt_ElseputError ms_TooLarge_ElseputError, k_BadName_TooLarge := kit_BadName_TooLarge, k_BadName_ValueError := kit_BadName_ValueError, k_BadName_BadNumber := kit_BadName_BadNumber, k_BadNumber_TooLarge := kit_BadNumber_TooLarge, k_BadNumber_ValueError := kit_BadNumber_ValueError, k_BadNumber_BadNumber := kit_BadNumber_BadNumber, k_BadSign_TooLarge := kit_BadSign_TooLarge, k_BadSign_ValueError := kit_BadSign_ValueError, k_BadSign_BadNumber := kit_BadSign_BadNumber, k_TooLarge_TooLarge := kit_TooLarge_TooLarge, k_TooLarge_ValueError := kit_TooLarge_ValueError, k_TooLarge_BadNumber := kit_TooLarge_BadNumber }
  have F_is_name := fun_mk (st := s_is_name) l_is_name c_is_name k_is_name
  have b_is_name := F_is_name.binds (ps := ["text"]) fun _ _ _ _ _ _ us hl => match us, hl with | [_], _ => rfl
  have F_in_bound := fun_mk (st := s_in_bound) l_in_bound c_in_bound k_in_bound
  have b_in_bound := F_in_bound.binds (ps := ["value"]) fun _ _ _ _ _ _ us hl => match us, hl with | [_], _ => rfl
  have F_check_name := fun_mk (st := s_check_name) l_check_name c_check_name k_check_name
  have b_check_name := F_check_name.binds (ps := ["text"]) fun _ _ _ _ _ _ us hl => match us, hl with | [_], _ => rfl
  have F_check_number := fun_mk (st := s_check_number) l_check_number c_check_number k_check_number
  have b_check_number := F_check_number.binds (ps := ["value"]) fun _ _ _ _ _ _ us hl => match us, hl with | [_], _ => rfl
  have F_comparisons := fun_mk (st := s_comparisons) l_comparisons c_comparisons k_comparisons
  have b_comparisons := F_comparisons.binds (ps := ["tree"]) fun _ _ _ _ _ _ us hl => match us, hl with | [_], _ => rfl
  have F_joined_tree := fun_mk (st := s_joined_tree) l_joined_tree c_joined_tree k_joined_tree
  have b_joined_tree := F_joined_tree.binds (ps := ["word", "left", "right"]) fun _ _ _ _ _ _ us hl => match us, hl with | [_, _, _], _ => rfl
  have F_Condition___init__ := fun_mk (st := s_Condition___init__) l_Condition___init__ c_Condition___init__ k_Condition___init__
  have b_Condition___init__ := F_Condition___init__.binds (ps := ["self", "tree"]) fun _ _ _ _ _ _ us hl => match us, hl with | [_, _], _ => rfl
  have F_joined := fun_mk (st := s_joined) l_joined c_joined k_joined
  have b_joined := F_joined.binds (ps := ["word", "left", "right"]) fun _ _ _ _ _ _ us hl => match us, hl with | [_, _, _], _ => rfl
  have F_opposite := fun_mk (st := s_opposite) l_opposite c_opposite k_opposite
  have b_opposite := F_opposite.binds (ps := ["tree"]) fun _ _ _ _ _ _ us hl => match us, hl with | [_], _ => rfl
  have F__law_state := fun_mk (st := s__law_state) l__law_state c__law_state k__law_state
  have b__law_state := F__law_state.binds (ps := ["_law_script"]) fun _ _ _ _ _ _ us hl => match us, hl with | [_], _ => rfl
  have F__law_draw := fun_mk (st := s__law_draw) l__law_draw c__law_draw k__law_draw
  have b__law_draw := F__law_draw.binds (ps := ["_law_state_here", "_law_many"]) fun _ _ _ _ _ _ us hl => match us, hl with | [_, _], _ => rfl
  have F__law_pick := fun_mk (st := s__law_pick) l__law_pick c__law_pick k__law_pick
  have b__law_pick := F__law_pick.binds (ps := ["_law_state_here", "_law_row"]) fun _ _ _ _ _ _ us hl => match us, hl with | [_, _], _ => rfl
  have F__law_number := fun_mk (st := s__law_number) l__law_number c__law_number k__law_number
  have b__law_number := F__law_number.binds (ps := ["_law_state_here"]) fun _ _ _ _ _ _ us hl => match us, hl with | [_], _ => rfl
  have F__law_constant := fun_mk (st := s__law_constant) l__law_constant c__law_constant k__law_constant
  have b__law_constant := F__law_constant.binds (ps := ["_law_state_here"]) fun _ _ _ _ _ _ us hl => match us, hl with | [_], _ => rfl
  have F__law_names := fun_mk (st := s__law_names) l__law_names c__law_names k__law_names
  have b__law_names := F__law_names.binds (ps := ["_law_state_here", "_law_many"]) fun _ _ _ _ _ _ us hl => match us, hl with | [_, _], _ => rfl
  have F__law_is_int := fun_mk (st := s__law_is_int) l__law_is_int c__law_is_int k__law_is_int
  have b__law_is_int := F__law_is_int.binds (ps := ["_law_thing"]) fun _ _ _ _ _ _ us hl => match us, hl with | [_], _ => rfl
  have F__law_same := fun_mk (st := s__law_same) l__law_same c__law_same k__law_same
  have b__law_same := F__law_same.binds (ps := ["_law_actual", "_law_due"]) fun _ _ _ _ _ _ us hl => match us, hl with | [_, _], _ => rfl
  have F__law_sorted := fun_mk (st := s__law_sorted) l__law_sorted c__law_sorted k__law_sorted
  have b__law_sorted := F__law_sorted.binds (ps := ["_law_row"]) fun _ _ _ _ _ _ us hl => match us, hl with | [_], _ => rfl
  have F__law_compared := fun_mk (st := s__law_compared) l__law_compared c__law_compared k__law_compared
  have b__law_compared := F__law_compared.binds (ps := ["_law_tree"]) fun _ _ _ _ _ _ us hl => match us, hl with | [_], _ => rfl
  have F_Condition_compare := fun_mk (st := s_Condition_compare) l_Condition_compare c_Condition_compare k_Condition_compare
  have b_Condition_compare := F_Condition_compare.binds (ps := ["field", "sign", "number"]) fun _ _ _ _ _ _ us hl => match us, hl with | [_, _, _], _ => rfl
  have F_Condition_always := fun_mk (st := s_Condition_always) l_Condition_always c_Condition_always k_Condition_always
  have b_Condition_always := F_Condition_always.binds (ps := []) fun _ _ _ _ _ _ us hl => match us, hl with | [], _ => rfl
  have F_Condition_never := fun_mk (st := s_Condition_never) l_Condition_never c_Condition_never k_Condition_never
  have b_Condition_never := F_Condition_never.binds (ps := []) fun _ _ _ _ _ _ us hl => match us, hl with | [], _ => rfl
  have F_Condition___and__ := fun_mk (st := s_Condition___and__) l_Condition___and__ c_Condition___and__ k_Condition___and__
  have b_Condition___and__ := F_Condition___and__.binds (ps := ["self", "other"]) fun _ _ _ _ _ _ us hl => match us, hl with | [_, _], _ => rfl
  have F_Condition___or__ := fun_mk (st := s_Condition___or__) l_Condition___or__ c_Condition___or__ k_Condition___or__
  have b_Condition___or__ := F_Condition___or__.binds (ps := ["self", "other"]) fun _ _ _ _ _ _ us hl => match us, hl with | [_, _], _ => rfl
  have F__law_condition := fun_mk (st := s__law_condition) l__law_condition c__law_condition k__law_condition
  have b__law_condition := F__law_condition.binds (ps := ["_law_tree"]) fun _ _ _ _ _ _ us hl => match us, hl with | [_], _ => rfl
  have F__law_leaves := fun_mk (st := s__law_leaves) l__law_leaves c__law_leaves k__law_leaves
  have b__law_leaves := F__law_leaves.binds (ps := ["_law_state_here", "_law_fields", "_law_many"]) fun _ _ _ _ _ _ us hl => match us, hl with | [_, _, _], _ => rfl
  have F__law_grown := fun_mk (st := s__law_grown) l__law_grown c__law_grown k__law_grown
  have b__law_grown := F__law_grown.binds (ps := ["_law_state_here", "_law_leaves_here"]) fun _ _ _ _ _ _ us hl => match us, hl with | [_, _], _ => rfl
  have F__law_opposite := fun_mk (st := s__law_opposite) l__law_opposite c__law_opposite k__law_opposite
  have b__law_opposite := F__law_opposite.binds (ps := ["_law_tree"]) fun _ _ _ _ _ _ us hl => match us, hl with | [_], _ => rfl
  have F__law_field_names := fun_mk (st := s__law_field_names) l__law_field_names c__law_field_names k__law_field_names
  have b__law_field_names := F__law_field_names.binds (ps := ["_law_tree"]) fun _ _ _ _ _ _ us hl => match us, hl with | [_], _ => rfl
  have F__law_joined_due := fun_mk (st := s__law_joined_due) l__law_joined_due c__law_joined_due k__law_joined_due
  have b__law_joined_due := F__law_joined_due.binds (ps := ["_law_word", "_law_left", "_law_right"]) fun _ _ _ _ _ _ us hl => match us, hl with | [_, _, _], _ => rfl
  have F__law_do := fun_mk (st := s__law_do) l__law_do c__law_do k__law_do
  have b__law_do := F__law_do.binds (ps := ["_law_word", "_law_left", "_law_right"]) fun _ _ _ _ _ _ us hl => match us, hl with | [_, _, _], _ => rfl
  have F_Condition_fields := fun_mk (st := s_Condition_fields) l_Condition_fields c_Condition_fields k_Condition_fields
  have b_Condition_fields := F_Condition_fields.binds (ps := ["self"]) fun _ _ _ _ _ _ us hl => match us, hl with | [_], _ => rfl
  have F_Condition_size := fun_mk (st := s_Condition_size) l_Condition_size c_Condition_size k_Condition_size
  have b_Condition_size := F_Condition_size.binds (ps := ["self"]) fun _ _ _ _ _ _ us hl => match us, hl with | [_], _ => rfl
  have F_Condition___invert__ := fun_mk (st := s_Condition___invert__) l_Condition___invert__ c_Condition___invert__ k_Condition___invert__
  have b_Condition___invert__ := F_Condition___invert__.binds (ps := ["self"]) fun _ _ _ _ _ _ us hl => match us, hl with | [_], _ => rfl
  have F__law_is := fun_mk (st := s__law_is) l__law_is c__law_is k__law_is
  have b__law_is := F__law_is.binds (ps := ["_law_made", "_law_tree"]) fun _ _ _ _ _ _ us hl => match us, hl with | [_, _], _ => rfl
  have F_law := fun_mk (st := s_law) l_law c_law k_law
  have b_law := F_law.binds (ps := ["_law_script"]) fun _ _ _ _ _ _ us hl => match us, hl with | [_], _ => rfl
  refine ⟨PySem.W.fnOf "law" "law" (defArgs s_law) (defBody s_law) (defScope s_law) .none kV_law dc_law pm_law an_law cd_law ct_law, fun s v => .of_eq rfl, fun base _ _ => ?_⟩
  have C_BadName : CalE l.prog w K mg base 1 "BadName" a_BadName f_BadName _ ["self", "name"] okx_BadName fs_BadName ["name"] := ⟨ok_BadName XK_BadName lf_BadName cd_BadName lc_BadName v2_BadName fe_BadName lcc_BadName hD_BadName (PySem.W.mg_none_of X G z_super) st_any htop, .all fun us hl => (match us, hl with | [_, _], _ => rfl), XK_BadName, PySem.W.mg_of X G g_BadName⟩
  have C_BadNumber : CalE l.prog w K mg base 1 "BadNumber" a_BadNumber f_BadNumber _ ["self", "value"] okx_BadNumber fs_BadNumber ["value"] := ⟨ok_BadNumber XK_BadNumber lf_BadNumber cd_BadNumber lc_BadNumber v2_BadNumber fe_BadNumber lcc_BadNumber hD_BadNumber (PySem.W.mg_none_of X G z_super) st_any htop, .all fun us hl => (match us, hl with | [_, _], _ => rfl), XK_BadNumber, PySem.W.mg_of X G g_BadNumber⟩
  have C_BadSign : CalE l.prog w K mg base 1 "BadSign" a_BadSign f_BadSign _ ["self", "sign"] okx_BadSign fs_BadSign ["sign"] := ⟨ok_BadSign XK_BadSign lf_BadSign cd_BadSign lc_BadSign v2_BadSign fe_BadSign lcc_BadSign hD_BadSign (PySem.W.mg_none_of X G z_super) st_any htop, .all fun us hl => (match us, hl with | [_, _], _ => rfl), XK_BadSign, PySem.W.mg_of X G g_BadSign⟩
  have C_TooLarge : CalE l.prog w K mg base 1 "TooLarge" a_TooLarge f_TooLarge _ ["self", "most"] okx_TooLarge fs_TooLarge ["most"] := ⟨ok_TooLarge XK_TooLarge lf_TooLarge cd_TooLarge lc_TooLarge v2_TooLarge fe_TooLarge lcc_TooLarge hD_TooLarge (PySem.W.mg_none_of X G z_super) st_any htop, .all fun us hl => (match us, hl with | [_, _], _ => rfl), XK_TooLarge, PySem.W.mg_of X G g_TooLarge⟩
  have C_is_name : Cal l.prog w K mg base CX0 1 "is_name" f_is_name _ ["text"] (sp_is_name K) := ⟨ok_is_name F_is_name T, b_is_name, k_is_name, PySem.W.mg_of X G a_is_name⟩
  have C_in_bound : Cal l.prog w K mg base CX0 1 "in_bound" f_in_bound _ ["value"] (sp_in_bound K) := ⟨ok_in_bound F_in_bound T, b_in_bound, k_in_bound, PySem.W.mg_of X G a_in_bound⟩
  have C_check_name : Cal l.prog w K mg base (L2.CX l.prog w) 3 "check_name" f_check_name _ ["text"] (sp_check_name K) := ⟨ok_check_name F_check_name T C_is_name C_BadName, b_check_name, k_check_name, PySem.W.mg_of X G a_check_name⟩
  have C_check_number : Cal l.prog w K mg base (L2.CX l.prog w) 3 "check_number" f_check_number _ ["value"] (sp_check_number K) := ⟨ok_check_number F_check_number T C_in_bound C_BadNumber, b_check_number, k_check_number, PySem.W.mg_of X G a_check_number⟩
  have C_comparisons : Cal l.prog w K mg base CX0 22 "comparisons" f_comparisons _ ["tree"] (sp_comparisons K) := ⟨ok_comparisons F_comparisons T b_comparisons k_comparisons (PySem.W.mg_of X G a_comparisons), b_comparisons, k_comparisons, PySem.W.mg_of X G a_comparisons⟩
  have C_joined_tree : Cal l.prog w K mg base CX0 1 "joined_tree" f_joined_tree _ ["word", "left", "right"] (sp_joined_tree K) := ⟨ok_joined_tree F_joined_tree T, b_joined_tree, k_joined_tree, PySem.W.mg_of X G a_joined_tree⟩
  have C_Condition___init__ : CalI l.prog w K mg base CX0 23 "Condition" a_Condition f_Condition___init__ _ ["self", "tree"] (sp_Condition___init__ K) := ⟨⟨ok_Condition___init__ F_Condition___init__ T C_comparisons, b_Condition___init__⟩, ⟨mi_Condition, fa_Condition___init__, fn_Condition___init__, ko_Condition⟩, PySem.W.mg_of X G g_Condition⟩
  have C_joined : Cal l.prog w K mg base (L2.CX l.prog w) 25 "joined" f_joined _ ["word", "left", "right"] (sp_joined K) := ⟨ok_joined F_joined T C_joined_tree C_comparisons C_Condition___init__ C_TooLarge, b_joined, k_joined, PySem.W.mg_of X G a_joined⟩
  have kd_OPPOSITES : ∀ p ∈ ([("<", ">="), (">=", "<"), ("<=", ">"), (">", "<="), ("==", "!="), ("!=", "==")] : List (Str × Str)), KDct K w a_OPPOSITES p.1 (.str p.2) := by
    intro p hp
    simp only [List.mem_cons, List.not_mem_nil, or_false] at hp
    rcases hp with rfl | rfl | rfl | rfl | rfl | rfl
    · exact ⟨_, _, _, dl_OPPOSITES, dk_OPPOSITES, dv_OPPOSITES_0, ⟨_, rfl⟩⟩
    · exact ⟨_, _, _, dl_OPPOSITES, dk_OPPOSITES, dv_OPPOSITES_1, ⟨_, rfl⟩⟩
    · exact ⟨_, _, _, dl_OPPOSITES, dk_OPPOSITES, dv_OPPOSITES_2, ⟨_, rfl⟩⟩
    · exact ⟨_, _, _, dl_OPPOSITES, dk_OPPOSITES, dv_OPPOSITES_3, ⟨_, rfl⟩⟩
    · exact ⟨_, _, _, dl_OPPOSITES, dk_OPPOSITES, dv_OPPOSITES_4, ⟨_, rfl⟩⟩
    · exact ⟨_, _, _, dl_OPPOSITES, dk_OPPOSITES, dv_OPPOSITES_5, ⟨_, rfl⟩⟩
  have C_opposite : Cal l.prog w K mg base CX0 22 "opposite" f_opposite _ ["tree"] (sp_opposite K) := ⟨ok_opposite F_opposite T kd_OPPOSITES b_opposite k_opposite (PySem.W.mg_of X G a_opposite), b_opposite, k_opposite, PySem.W.mg_of X G a_opposite⟩
  have C__law_state : Cal l.prog w K mg base CX0 1 "_law_state" f__law_state _ ["_law_script"] (sp__law_state K) := ⟨ok__law_state F__law_state T, b__law_state, k__law_state, PySem.W.mg_of X G a__law_state⟩
  have C__law_draw : Cal l.prog w K mg base CX0 1 "_law_draw" f__law_draw _ ["_law_state_here", "_law_many"] (sp__law_draw K) := ⟨ok__law_draw F__law_draw T, b__law_draw, k__law_draw, PySem.W.mg_of X G a__law_draw⟩
  have C__law_pick : Cal l.prog w K mg base CX0 2 "_law_pick" f__law_pick _ ["_law_state_here", "_law_row"] (sp__law_pick K) := ⟨ok__law_pick F__law_pick T C__law_draw, b__law_pick, k__law_pick, PySem.W.mg_of X G a__law_pick⟩
  have C__law_number : Cal l.prog w K mg base CX0 2 "_law_number" f__law_number _ ["_law_state_here"] (sp__law_number K) := ⟨ok__law_number F__law_number T C__law_draw, b__law_number, k__law_number, PySem.W.mg_of X G a__law_number⟩
  have C__law_constant : Cal l.prog w K mg base CX0 3 "_law_constant" f__law_constant _ ["_law_state_here"] (sp__law_constant K) := ⟨ok__law_constant F__law_constant T C__law_number C__law_draw, b__law_constant, k__law_constant, PySem.W.mg_of X G a__law_constant⟩
  have C__law_names : Cal l.prog w K mg base CX0 2 "_law_names" f__law_names _ ["_law_state_here", "_law_many"] (sp__law_names K) := ⟨ok__law_names F__law_names T C__law_draw, b__law_names, k__law_names, PySem.W.mg_of X G a__law_names⟩
  have C__law_is_int : Cal l.prog w K mg base CX0 1 "_law_is_int" f__law_is_int _ ["_law_thing"] (sp__law_is_int K) := ⟨ok__law_is_int F__law_is_int T, b__law_is_int, k__law_is_int, PySem.W.mg_of X G a__law_is_int⟩
  have C__law_same : Cal l.prog w K mg base CX0 26 "_law_same" f__law_same _ ["_law_actual", "_law_due"] (sp__law_same K) := ⟨ok__law_same F__law_same T C__law_is_int b__law_same k__law_same (PySem.W.mg_of X G a__law_same), b__law_same, k__law_same, PySem.W.mg_of X G a__law_same⟩
  have C__law_sorted : Cal l.prog w K mg base CX0 1 "_law_sorted" f__law_sorted _ ["_law_row"] (sp__law_sorted K) := ⟨ok__law_sorted F__law_sorted T, b__law_sorted, k__law_sorted, PySem.W.mg_of X G a__law_sorted⟩
  have C__law_compared : Cal l.prog w K mg base CX0 22 "_law_compared" f__law_compared _ ["_law_tree"] (sp__law_compared K) := ⟨ok__law_compared F__law_compared T b__law_compared k__law_compared (PySem.W.mg_of X G a__law_compared), b__law_compared, k__law_compared, PySem.W.mg_of X G a__law_compared⟩
  have C_Condition_compare : CalS l.prog w K mg base (L2.CX l.prog w) 25 a_Condition p_Condition_compare "compare" f_Condition_compare _ ["field", "sign", "number"] (sp_Condition_compare K) := ⟨⟨ok_Condition_compare F_Condition_compare T C_check_name C_check_number C_Condition___init__ C_BadSign, b_Condition_compare⟩, ⟨rr_Condition, rg_Condition⟩, ⟨sg_Condition_compare, ⟨_, sr_Condition_compare⟩, k_Condition_compare⟩⟩
  have C_Condition_always : CalS l.prog w K mg base CX0 25 a_Condition p_Condition_always "always" f_Condition_always _ [] (sp_Condition_always K) := ⟨⟨ok_Condition_always F_Condition_always T C_Condition___init__, b_Condition_always⟩, ⟨rr_Condition, rg_Condition⟩, ⟨sg_Condition_always, ⟨_, sr_Condition_always⟩, k_Condition_always⟩⟩
  have C_Condition_never : CalS l.prog w K mg base CX0 25 a_Condition p_Condition_never "never" f_Condition_never _ [] (sp_Condition_never K) := ⟨⟨ok_Condition_never F_Condition_never T C_Condition___init__, b_Condition_never⟩, ⟨rr_Condition, rg_Condition⟩, ⟨sg_Condition_never, ⟨_, sr_Condition_never⟩, k_Condition_never⟩⟩
  have C_Condition___and__ : CalO l.prog w K mg base (L2.CX l.prog w) 26 a_Condition .BitAnd f_Condition___and__ _ ["self", "other"] (sp_Condition___and__ K) := ⟨⟨ok_Condition___and__ F_Condition___and__ T C_joined, b_Condition___and__⟩, ⟨sf_Condition, fa_Condition___and__, fn_Condition___and__⟩⟩
  have C_Condition___or__ : CalO l.prog w K mg base (L2.CX l.prog w) 26 a_Condition .BitOr f_Condition___or__ _ ["self", "other"] (sp_Condition___or__ K) := ⟨⟨ok_Condition___or__ F_Condition___or__ T C_joined, b_Condition___or__⟩, ⟨sf_Condition, fa_Condition___or__, fn_Condition___or__⟩⟩
  have C__law_condition : Cal l.prog w K mg base CX0 48 "_law_condition" f__law_condition _ ["_law_tree"] (sp__law_condition K) := ⟨ok__law_condition F__law_condition T C_Condition_compare C_Condition_always C_Condition_never C_Condition___and__ C_Condition___or__ b__law_condition k__law_condition (PySem.W.mg_of X G a__law_condition), b__law_condition, k__law_condition, PySem.W.mg_of X G a__law_condition⟩
  have C__law_leaves : Cal l.prog w K mg base CX0 4 "_law_leaves" f__law_leaves _ ["_law_state_here", "_law_fields", "_law_many"] (sp__law_leaves K) := ⟨ok__law_leaves F__law_leaves T C__law_pick C__law_constant, b__law_leaves, k__law_leaves, PySem.W.mg_of X G a__law_leaves⟩
  have C__law_grown : Cal l.prog w K mg base CX0 3 "_law_grown" f__law_grown _ ["_law_state_here", "_law_leaves_here"] (sp__law_grown K) := ⟨ok__law_grown F__law_grown T C__law_draw C__law_pick, b__law_grown, k__law_grown, PySem.W.mg_of X G a__law_grown⟩
  have C__law_opposite : Cal l.prog w K mg base CX0 22 "_law_opposite" f__law_opposite _ ["_law_tree"] (sp__law_opposite K) := ⟨ok__law_opposite F__law_opposite T b__law_opposite k__law_opposite (PySem.W.mg_of X G a__law_opposite), b__law_opposite, k__law_opposite, PySem.W.mg_of X G a__law_opposite⟩
  have C__law_field_names : Cal l.prog w K mg base CX0 23 "_law_field_names" f__law_field_names _ ["_law_tree"] (sp__law_field_names K) := ⟨ok__law_field_names F__law_field_names T C__law_compared C__law_sorted, b__law_field_names, k__law_field_names, PySem.W.mg_of X G a__law_field_names⟩
  have C__law_joined_due : Cal l.prog w K mg base CX0 23 "_law_joined_due" f__law_joined_due _ ["_law_word", "_law_left", "_law_right"] (sp__law_joined_due K) := ⟨ok__law_joined_due F__law_joined_due T C__law_compared, b__law_joined_due, k__law_joined_due, PySem.W.mg_of X G a__law_joined_due⟩
  have C__law_do : Cal l.prog w K mg base CX0 27 "_law_do" f__law_do _ ["_law_word", "_law_left", "_law_right"] (sp__law_do K) := ⟨ok__law_do F__law_do T C_Condition___and__ C_Condition___or__, b__law_do, k__law_do, PySem.W.mg_of X G a__law_do⟩
  have C_Condition_fields : CalP l.prog w K mg base CX0 1 a_Condition p_Condition_fields "fields" f_Condition_fields _ ["self"] (sp_Condition_fields K) := ⟨⟨ok_Condition_fields F_Condition_fields T, b_Condition_fields⟩, ⟨pg_Condition, hx_Condition, po_Condition, st_Condition⟩, ⟨pa_Condition_fields, ps_Condition_fields, pt_Condition_fields, ⟨_, pr_Condition_fields⟩⟩⟩
  have C_Condition_size : CalP l.prog w K mg base CX0 23 a_Condition p_Condition_size "size" f_Condition_size _ ["self"] (sp_Condition_size K) := ⟨⟨ok_Condition_size F_Condition_size T C_comparisons, b_Condition_size⟩, ⟨pg_Condition, hx_Condition, po_Condition, st_Condition⟩, ⟨pa_Condition_size, ps_Condition_size, pt_Condition_size, ⟨_, pr_Condition_size⟩⟩⟩
  have C_Condition___invert__ : CalInv l.prog w K mg base CX0 25 a_Condition f_Condition___invert__ _ ["self"] (sp_Condition___invert__ K) := ⟨⟨ok_Condition___invert__ F_Condition___invert__ T C_opposite C_Condition___init__, b_Condition___invert__⟩, ⟨fa_Condition___invert__, fn_Condition___invert__⟩⟩
  have C__law_is : Cal l.prog w K mg base CX0 30 "_law_is" f__law_is _ ["_law_made", "_law_tree"] (sp__law_is K) := ⟨ok__law_is F__law_is T C__law_same C__law_field_names C__law_opposite C__law_compared C_Condition_fields C_Condition_size C_Condition___invert__, b__law_is, k__law_is, PySem.W.mg_of X G a__law_is⟩
  exact ok_law F_law T C__law_state C__law_names C__law_leaves C__law_same C__law_draw C__law_grown C__law_condition C__law_is C__law_do C__law_joined_due
theorem walk {l : PySem.W.OpenLaw} {q : Program} {loose : List Str} {XP : (Str → Option Value) → Heap → Prop} {YP : World → Heap → Prop} {d : DefRec} {K : Params → PySem.W.Frag} (hn : l.most = some 63) (hdf : d.params.defaults = [])
    (hY : ∀ (w : World) (h : Heap), YP w h → (K w.params).In h)
    (F : ∀ (w : World) (mg : Str → Option Value) (fa : Addr) (h : Heap), (K w.params).In h → h.Ns mainGlobals mg → mg d.name = some (.ref fa) →
      ∃ fd : FuncData, (∀ (s : Shared) (u : Value), BindsTo s fd ⟨[u], []⟩ [("_law_script", u)]) ∧ ∀ base : Heap, (K w.params).In base → base.Ns mainGlobals mg → FnOk l.prog w (K w.params) mg base CX0 60 fa fd ["_law_script"] (spLaw (K w.params))) :
    PySem.W.WalkO q loose XP YP l.row.toRowW d [] (fun f vs => PySem.call f vs) :=
  L2.walk_of (n := 63) (k := 60) (x := "_law_script") (CX := fun _ => CX0) (sp := fun w => spLaw (K w.params)) hn (by decide) hdf ⟨rfl, by decide, by decide⟩ hY F (fun _ _ a ns hl _ hS => ⟨a, ns, rfl, hS, hl, fun _ => rfl⟩) fun _ _ _ _ _ z => z
end K03
open PySem PySem.W PyProof.Rows
set_option maxRecDepth 100000 in
set_option maxHeartbeats 0 in
theorem PySem.Challenge.cw_elseput_k03_operators_on_conditions_holds : PySem.Challenge.rw_elseput_k03_operators_on_conditions.Holds := by
  w_on; o_law; k_head; (case hw => w_witness2)
  k_fill
  refine K03.walk (l := PySem.Challenge.rw_elseput_k03_operators_on_conditions) rfl rfl (fun w h Y => PySem.W.kIn_of Y) ?F
  case F =>
    intro w mg fa h KX G hmg
    refine' K03.all_mk KX G hmg ?g_Condition ?pg_Condition ?hx_Condition ?po_Condition ?st_Condition ?rr_Condition ?rg_Condition ?mi_Condition ?ko_Condition ?sf_Condition ?na_Condition__fields ?na_Condition_tree ?cv_Condition_MOST ?a_is_name ?l_is_name ?c_is_name ?k_is_name ?a_in_bound ?l_in_bound ?c_in_bound ?k_in_bound ?a_check_name ?l_check_name ?c_check_name ?k_check_name ?a_check_number ?l_check_number ?c_check_number ?k_check_number ?a_comparisons ?l_comparisons ?c_comparisons ?k_comparisons ?a_joined_tree ?l_joined_tree ?c_joined_tree ?k_joined_tree ?fa_Condition___init__ ?fn_Condition___init__ ?l_Condition___init__ ?c_Condition___init__ ?k_Condition___init__ ?a_joined ?l_joined ?c_joined ?k_joined ?a_opposite ?l_opposite ?c_opposite ?k_opposite ?a__law_state ?l__law_state ?c__law_state ?k__law_state ?a__law_draw ?l__law_draw ?c__law_draw ?k__law_draw ?a__law_pick ?l__law_pick ?c__law_pick ?k__law_pick ?a__law_number ?l__law_number ?c__law_number ?k__law_number ?a__law_constant ?l__law_constant ?c__law_constant ?k__law_constant ?a__law_names ?l__law_names ?c__law_names ?k__law_names ?a__law_is_int ?l__law_is_int ?c__law_is_int ?k__law_is_int ?a__law_same ?l__law_same ?c__law_same ?k__law_same ?a__law_sorted ?l__law_sorted ?c__law_sorted ?k__law_sorted ?a__law_compared ?l__law_compared ?c__law_compared ?k__law_compared ?sg_Condition_compare ?sr_Condition_compare ?l_Condition_compare ?c_Condition_compare ?k_Condition_compare ?sg_Condition_always ?sr_Condition_always ?l_Condition_always ?c_Condition_always ?k_Condition_always ?sg_Condition_never ?sr_Condition_never ?l_Condition_never ?c_Condition_never ?k_Condition_never ?fa_Condition___and__ ?fn_Condition___and__ ?l_Condition___and__ ?c_Condition___and__ ?k_Condition___and__ ?fa_Condition___or__ ?fn_Condition___or__ ?l_Condition___or__ ?c_Condition___or__ ?k_Condition___or__ ?a__law_condition ?l__law_condition ?c__law_condition ?k__law_condition ?a__law_leaves ?l__law_leaves ?c__law_leaves ?k__law_leaves ?a__law_grown ?l__law_grown ?c__law_grown ?k__law_grown ?a__law_opposite ?l__law_opposite ?c__law_opposite ?k__law_opposite ?a__law_field_names ?l__law_field_names ?c__law_field_names ?k__law_field_names ?a__law_joined_due ?l__law_joined_due ?c__law_joined_due ?k__law_joined_due ?a__law_do ?l__law_do ?c__law_do ?k__law_do ?pa_Condition_fields ?ps_Condition_fields ?pt_Condition_fields ?pr_Condition_fields ?l_Condition_fields ?c_Condition_fields ?k_Condition_fields ?pa_Condition_size ?ps_Condition_size ?pt_Condition_size ?pr_Condition_size ?l_Condition_size ?c_Condition_size ?k_Condition_size ?fa_Condition___invert__ ?fn_Condition___invert__ ?l_Condition___invert__ ?c_Condition___invert__ ?k_Condition___invert__ ?a__law_is ?l__law_is ?c__law_is ?k__law_is ?a_law ?l_law ?c_law ?k_law ?z_ValueError ?z_all ?z_bool ?z_dict ?z_int ?z_isinstance ?z_len ?z_list ?z_property ?z_range ?z_sorted ?z_staticmethod ?z_str ?z_super ?z_tuple ?g_BOUND ?g_LETTERS ?g_LONGEST_NAME ?g_ALWAYS ?l_ALWAYS ?v_ALWAYS ?g_NEVER ?l_NEVER ?v_NEVER ?g_OPPOSITES ?g_RESERVED ?l_RESERVED ?v_RESERVED ?g_SIGNS ?l_SIGNS ?v_SIGNS ?g_BadName ?g_BadNumber ?g_BadSign ?g_ElseputError ?g_TooLarge ?st_any ?htop ?xc_BadName ?ref_BadName ?sa_BadName ?eb_BadName ?ty_BadName ?kC_BadName ?iC_BadName ?tI_BadName ?sup_BadName ?sv_BadName ?mro_BadName ?no0_BadName ?ga_BadName ?gg_BadName ?hd_BadName ?hcl_BadName ?hn_BadName ?ht_BadName ?hm_BadName ?lf_BadName ?cd_BadName ?lc_BadName ?v2_BadName ?fe_BadName ?lcc_BadName ?hD_BadName ?xc_BadNumber ?ref_BadNumber ?sa_BadNumber ?eb_BadNumber ?ty_BadNumber ?kC_BadNumber ?iC_BadNumber ?tI_BadNumber ?sup_BadNumber ?sv_BadNumber ?mro_BadNumber ?no0_BadNumber ?ga_BadNumber ?gg_BadNumber ?hd_BadNumber ?hcl_BadNumber ?hn_BadNumber ?ht_BadNumber ?hm_BadNumber ?lf_BadNumber ?cd_BadNumber ?lc_BadNumber ?v2_BadNumber ?fe_BadNumber ?lcc_BadNumber ?hD_BadNumber ?xc_BadSign ?ref_BadSign ?sa_BadSign ?eb_BadSign ?ty_BadSign ?kC_BadSign ?iC_BadSign ?tI_BadSign ?sup_BadSign ?sv_BadSign ?mro_BadSign ?no0_BadSign ?ga_BadSign ?gg_BadSign ?hd_BadSign ?hcl_BadSign ?hn_BadSign ?ht_BadSign ?hm_BadSign ?lf_BadSign ?cd_BadSign ?lc_BadSign ?v2_BadSign ?fe_BadSign ?lcc_BadSign ?hD_BadSign ?xc_TooLarge ?ref_TooLarge ?sa_TooLarge ?eb_TooLarge ?ty_TooLarge ?kC_TooLarge ?iC_TooLarge ?tI_TooLarge ?sup_TooLarge ?sv_TooLarge ?mro_TooLarge ?no0_TooLarge ?ga_TooLarge ?gg_TooLarge ?hd_TooLarge ?hcl_TooLarge ?hn_TooLarge ?ht_TooLarge ?hm_TooLarge ?lf_TooLarge ?cd_TooLarge ?lc_TooLarge ?v2_TooLarge ?fe_TooLarge ?lcc_TooLarge ?hD_TooLarge ?mb_ElseputError ?md_ElseputError ?mt_ElseputError ?ms_BadName_ElseputError ?ms_BadNumber_ElseputError ?ms_BadSign_ElseputError ?ms_TooLarge_ElseputError ?kit_BadName_TooLarge ?kit_BadName_ValueError ?kit_BadName_BadNumber ?kit_BadNumber_TooLarge ?kit_BadNumber_ValueError ?kit_BadNumber_BadNumber ?kit_BadSign_TooLarge ?kit_BadSign_ValueError ?kit_BadSign_BadNumber ?kit_TooLarge_TooLarge ?kit_TooLarge_ValueError ?kit_TooLarge_BadNumber ?dl_OPPOSITES ?dk_OPPOSITES ?dv_OPPOSITES_0 ?dv_OPPOSITES_1 ?dv_OPPOSITES_2 ?dv_OPPOSITES_3 ?dv_OPPOSITES_4 ?dv_OPPOSITES_5
    (case g_Condition => k_is)
    (case pg_Condition => k_is)
    (case hx_Condition => k_is)
    (case po_Condition => k_is)
    (case st_Condition => k_is)
    (case rr_Condition => k_is)
    (case rg_Condition => k_is)
    (case mi_Condition => k_is)
    (case ko_Condition => k_is)
    (case sf_Condition => k_is)
    (case na_Condition__fields => k_is)
    (case na_Condition_tree => k_is)
    (case cv_Condition_MOST => k_is)
    (case a_is_name => k_is)
    (case l_is_name => k_is)
    (case c_is_name => k_is)
    (case k_is_name => k_is)
    (case a_in_bound => k_is)
    (case l_in_bound => k_is)
    (case c_in_bound => k_is)
    (case k_in_bound => k_is)
    (case a_check_name => k_is)
    (case l_check_name => k_is)
    (case c_check_name => k_is)
    (case k_check_name => k_is)
    (case a_check_number => k_is)
    (case l_check_number => k_is)
    (case c_check_number => k_is)
    (case k_check_number => k_is)
    (case a_comparisons => k_is)
    (case l_comparisons => k_is)
    (case c_comparisons => k_is)
    (case k_comparisons => k_is)
    (case a_joined_tree => k_is)
    (case l_joined_tree => k_is)
    (case c_joined_tree => k_is)
    (case k_joined_tree => k_is)
    (case fa_Condition___init__ => k_is)
    (case fn_Condition___init__ => k_is)
    (case l_Condition___init__ => k_is)
    (case c_Condition___init__ => k_is)
    (case k_Condition___init__ => k_is)
    (case a_joined => k_is)
    (case l_joined => k_is)
    (case c_joined => k_is)
    (case k_joined => k_is)
    (case a_opposite => k_is)
    (case l_opposite => k_is)
    (case c_opposite => k_is)
    (case k_opposite => k_is)
    (case a__law_state => k_is)
    (case l__law_state => k_is)
    (case c__law_state => k_is)
    (case k__law_state => k_is)
    (case a__law_draw => k_is)
    (case l__law_draw => k_is)
    (case c__law_draw => k_is)
    (case k__law_draw => k_is)
    (case a__law_pick => k_is)
    (case l__law_pick => k_is)
    (case c__law_pick => k_is)
    (case k__law_pick => k_is)
    (case a__law_number => k_is)
    (case l__law_number => k_is)
    (case c__law_number => k_is)
    (case k__law_number => k_is)
    (case a__law_constant => k_is)
    (case l__law_constant => k_is)
    (case c__law_constant => k_is)
    (case k__law_constant => k_is)
    (case a__law_names => k_is)
    (case l__law_names => k_is)
    (case c__law_names => k_is)
    (case k__law_names => k_is)
    (case a__law_is_int => k_is)
    (case l__law_is_int => k_is)
    (case c__law_is_int => k_is)
    (case k__law_is_int => k_is)
    (case a__law_same => k_is)
    (case l__law_same => k_is)
    (case c__law_same => k_is)
    (case k__law_same => k_is)
    (case a__law_sorted => k_is)
    (case l__law_sorted => k_is)
    (case c__law_sorted => k_is)
    (case k__law_sorted => k_is)
    (case a__law_compared => k_is)
    (case l__law_compared => k_is)
    (case c__law_compared => k_is)
    (case k__law_compared => k_is)
    (case sg_Condition_compare => k_is)
    (case sr_Condition_compare => k_is)
    (case l_Condition_compare => k_is)
    (case c_Condition_compare => k_is)
    (case k_Condition_compare => k_is)
    (case sg_Condition_always => k_is)
    (case sr_Condition_always => k_is)
    (case l_Condition_always => k_is)
    (case c_Condition_always => k_is)
    (case k_Condition_always => k_is)
    (case sg_Condition_never => k_is)
    (case sr_Condition_never => k_is)
    (case l_Condition_never => k_is)
    (case c_Condition_never => k_is)
    (case k_Condition_never => k_is)
    (case fa_Condition___and__ => k_is)
    (case fn_Condition___and__ => k_is)
    (case l_Condition___and__ => k_is)
    (case c_Condition___and__ => k_is)
    (case k_Condition___and__ => k_is)
    (case fa_Condition___or__ => k_is)
    (case fn_Condition___or__ => k_is)
    (case l_Condition___or__ => k_is)
    (case c_Condition___or__ => k_is)
    (case k_Condition___or__ => k_is)
    (case a__law_condition => k_is)
    (case l__law_condition => k_is)
    (case c__law_condition => k_is)
    (case k__law_condition => k_is)
    (case a__law_leaves => k_is)
    (case l__law_leaves => k_is)
    (case c__law_leaves => k_is)
    (case k__law_leaves => k_is)
    (case a__law_grown => k_is)
    (case l__law_grown => k_is)
    (case c__law_grown => k_is)
    (case k__law_grown => k_is)
    (case a__law_opposite => k_is)
    (case l__law_opposite => k_is)
    (case c__law_opposite => k_is)
    (case k__law_opposite => k_is)
    (case a__law_field_names => k_is)
    (case l__law_field_names => k_is)
    (case c__law_field_names => k_is)
    (case k__law_field_names => k_is)
    (case a__law_joined_due => k_is)
    (case l__law_joined_due => k_is)
    (case c__law_joined_due => k_is)
    (case k__law_joined_due => k_is)
    (case a__law_do => k_is)
    (case l__law_do => k_is)
    (case c__law_do => k_is)
    (case k__law_do => k_is)
    (case pa_Condition_fields => k_is)
    (case ps_Condition_fields => k_is)
    (case pt_Condition_fields => k_is)
    (case pr_Condition_fields => k_is)
    (case l_Condition_fields => k_is)
    (case c_Condition_fields => k_is)
    (case k_Condition_fields => k_is)
    (case pa_Condition_size => k_is)
    (case ps_Condition_size => k_is)
    (case pt_Condition_size => k_is)
    (case pr_Condition_size => k_is)
    (case l_Condition_size => k_is)
    (case c_Condition_size => k_is)
    (case k_Condition_size => k_is)
    (case fa_Condition___invert__ => k_is)
    (case fn_Condition___invert__ => k_is)
    (case l_Condition___invert__ => k_is)
    (case c_Condition___invert__ => k_is)
    (case k_Condition___invert__ => k_is)
    (case a__law_is => k_is)
    (case l__law_is => k_is)
    (case c__law_is => k_is)
    (case k__law_is => k_is)
    (case a_law => k_is)
    (case l_law => k_is)
    (case c_law => k_is)
    (case k_law => k_is)
    (case z_ValueError => k_is)
    (case z_all => k_is)
    (case z_bool => k_is)
    (case z_dict => k_is)
    (case z_int => k_is)
    (case z_isinstance => k_is)
    (case z_len => k_is)
    (case z_list => k_is)
    (case z_property => k_is)
    (case z_range => k_is)
    (case z_sorted => k_is)
    (case z_staticmethod => k_is)
    (case z_str => k_is)
    (case z_super => k_is)
    (case z_tuple => k_is)
    (case g_BOUND => k_is)
    (case g_LETTERS => k_is)
    (case g_LONGEST_NAME => k_is)
    (case g_ALWAYS => k_is)
    (case l_ALWAYS => k_is)
    (case v_ALWAYS => (repeat' first | exact .nil | refine .cons ⟨_, rfl⟩ ?_))
    (case g_NEVER => k_is)
    (case l_NEVER => k_is)
    (case v_NEVER => (repeat' first | exact .nil | refine .cons ⟨_, rfl⟩ ?_))
    (case g_OPPOSITES => k_is)
    (case g_RESERVED => k_is)
    (case l_RESERVED => k_is)
    (case v_RESERVED => (repeat' first | exact .nil | refine .cons ⟨_, rfl⟩ ?_))
    (case g_SIGNS => k_is)
    (case l_SIGNS => k_is)
    (case v_SIGNS => (repeat' first | exact .nil | refine .cons ⟨_, rfl⟩ ?_))
    (case g_BadName => k_is)
    (case g_BadNumber => k_is)
    (case g_BadSign => k_is)
    (case g_ElseputError => k_is)
    (case g_TooLarge => k_is)
    (case st_any => k_is)
    (case htop => first | rfl | decide +kernel | k_is)
    (case xc_BadName => k_is)
    (case ref_BadName => first | rfl | decide +kernel | k_is)
    (case sa_BadName => k_is)
    (case eb_BadName => k_is)
    (case ty_BadName => k_is)
    (case kC_BadName => k_is)
    (case iC_BadName => k_is)
    (case tI_BadName => k_is)
    (case sup_BadName => ks_is)
    (case sv_BadName => k_is)
    (case mro_BadName => k_is)
    (case no0_BadName => k_is)
    (case ga_BadName => k_is)
    (case gg_BadName => k_is)
    (case hd_BadName => k_is)
    (case hcl_BadName => k_is)
    (case hn_BadName => k_is)
    (case ht_BadName => k_is)
    (case hm_BadName => k_is)
    (case lf_BadName => k_is)
    (case cd_BadName => k_is)
    (case lc_BadName => k_is)
    (case v2_BadName => first | rfl | decide +kernel | k_is)
    (case fe_BadName => first | rfl | decide +kernel | k_is)
    (case lcc_BadName => k_is)
    (case hD_BadName => k_is)
    (case xc_BadNumber => k_is)
    (case ref_BadNumber => first | rfl | decide +kernel | k_is)
    (case sa_BadNumber => k_is)
    (case eb_BadNumber => k_is)
    (case ty_BadNumber => k_is)
    (case kC_BadNumber => k_is)
    (case iC_BadNumber => k_is)
    (case tI_BadNumber => k_is)
    (case sup_BadNumber => ks_is)
    (case sv_BadNumber => k_is)
    (case mro_BadNumber => k_is)
    (case no0_BadNumber => k_is)
    (case ga_BadNumber => k_is)
    (case gg_BadNumber => k_is)
    (case hd_BadNumber => k_is)
    (case hcl_BadNumber => k_is)
    (case hn_BadNumber => k_is)
    (case ht_BadNumber => k_is)
    (case hm_BadNumber => k_is)
    (case lf_BadNumber => k_is)
    (case cd_BadNumber => k_is)
    (case lc_BadNumber => k_is)
    (case v2_BadNumber => first | rfl | decide +kernel | k_is)
    (case fe_BadNumber => first | rfl | decide +kernel | k_is)
    (case lcc_BadNumber => k_is)
    (case hD_BadNumber => k_is)
    (case xc_BadSign => k_is)
    (case ref_BadSign => first | rfl | decide +kernel | k_is)
    (case sa_BadSign => k_is)
    (case eb_BadSign => k_is)
    (case ty_BadSign => k_is)
    (case kC_BadSign => k_is)
    (case iC_BadSign => k_is)
    (case tI_BadSign => k_is)
    (case sup_BadSign => ks_is)
    (case sv_BadSign => k_is)
    (case mro_BadSign => k_is)
    (case no0_BadSign => k_is)
    (case ga_BadSign => k_is)
    (case gg_BadSign => k_is)
    (case hd_BadSign => k_is)
    (case hcl_BadSign => k_is)
    (case hn_BadSign => k_is)
    (case ht_BadSign => k_is)
    (case hm_BadSign => k_is)
    (case lf_BadSign => k_is)
    (case cd_BadSign => k_is)
    (case lc_BadSign => k_is)
    (case v2_BadSign => first | rfl | decide +kernel | k_is)
    (case fe_BadSign => first | rfl | decide +kernel | k_is)
    (case lcc_BadSign => k_is)
    (case hD_BadSign => k_is)
    (case xc_TooLarge => k_is)
    (case ref_TooLarge => first | rfl | decide +kernel | k_is)
    (case sa_TooLarge => k_is)
    (case eb_TooLarge => k_is)
    (case ty_TooLarge => k_is)
    (case kC_TooLarge => k_is)
    (case iC_TooLarge => k_is)
    (case tI_TooLarge => k_is)
    (case sup_TooLarge => ks_is)
    (case sv_TooLarge => k_is)
    (case mro_TooLarge => k_is)
    (case no0_TooLarge => k_is)
    (case ga_TooLarge => k_is)
    (case gg_TooLarge => k_is)
    (case hd_TooLarge => k_is)
    (case hcl_TooLarge => k_is)
    (case hn_TooLarge => k_is)
    (case ht_TooLarge => k_is)
    (case hm_TooLarge => k_is)
    (case lf_TooLarge => k_is)
    (case cd_TooLarge => k_is)
    (case lc_TooLarge => k_is)
    (case v2_TooLarge => first | rfl | decide +kernel | k_is)
    (case fe_TooLarge => first | rfl | decide +kernel | k_is)
    (case lcc_TooLarge => k_is)
    (case hD_TooLarge => k_is)
    (case mb_ElseputError => k_is)
    (case md_ElseputError => k_is)
    (case mt_ElseputError => k_is)
    (case ms_BadName_ElseputError => k_is)
    (case ms_BadNumber_ElseputError => k_is)
    (case ms_BadSign_ElseputError => k_is)
    (case ms_TooLarge_ElseputError => k_is)
    (case kit_BadName_TooLarge => kit_is)
    (case kit_BadName_ValueError => kit_is)
    (case kit_BadName_BadNumber => kit_is)
    (case kit_BadNumber_TooLarge => kit_is)
    (case kit_BadNumber_ValueError => kit_is)
    (case kit_BadNumber_BadNumber => kit_is)
    (case kit_BadSign_TooLarge => kit_is)
    (case kit_BadSign_ValueError => kit_is)
    (case kit_BadSign_BadNumber => kit_is)
    (case kit_TooLarge_TooLarge => kit_is)
    (case kit_TooLarge_ValueError => kit_is)
    (case kit_TooLarge_BadNumber => kit_is)
    (case dl_OPPOSITES => k_is)
    (case dk_OPPOSITES => k_keys)
    (case dv_OPPOSITES_0 => k_is)
    (case dv_OPPOSITES_1 => k_is)
    (case dv_OPPOSITES_2 => k_is)
    (case dv_OPPOSITES_3 => k_is)
    (case dv_OPPOSITES_4 => k_is)
    (case dv_OPPOSITES_5 => k_is)
