import PyProof.Rows.All
import Wide.All
import OpenK.AllK
import Wide.FinOn
import HandS.ForMost
import HandS.Wide
import HandS.TupAny
import HandS.IsInst
import HandS.Flow
import HandS.Evl
import HandS.Walk
import HandS.ExcInit
import HandS.Nested
import HandS.FStr
import HandS.TryOnly
import HandS.TryMany
import HandS.ExcIs
import HandS.ExcField
import HandS.WordsExc
import HandS.RaiseMore
import KE.KExcSuper
import KE.KExcIs
import PyProof.StrOps2
import PyProof.Rows.ReprOcc
import PyProof.Rows.StrDigits
import PyProof.Rows.StrJoinMade
import HandS.ClsMeth
import HandS.Star
import HandS.Property
import HandS.New
import HandS.ExcOwn
import HandS.More
import HandS.Dict
import HandS.Small
import KE.KOpsOwn
import OpenK.KMeth
import HandS.Conv
import HandS.Finally
import PyProof.StrLawsRepr
import HandS.Defaults
import HandS.Text
import KE.KIntText
import KE.IntTextLaws
import HandS.IterVal
import KE.KOwnIter
import HandS.Strs
import HandS.Iter
import KE.GoesMore
import HandS.SetBool
import HandS.HeadHook3
import KE.KRevSl
import KE.GoesComp
import HandS.Comp
import HandS.Exc
import PySem.Challenge.RW_elseput_k07_condition_read_refused
set_option Elab.async false
set_option linter.all false
set_option maxRecDepth 100000
/-! Own words over the hand layer: readings that compute on the values' shapes. -/
namespace El
open PySem PySem.Spec PyProof.Rows L2
section
variable {X : Cx}

theorem wk {e : Expr} {t t' : TE} (h : PE X e t) (i : ∀ σ H Q, t' σ H Q → t σ H Q) : PE X e t' :=
  ⟨fun pins s σ H Q I q => h.run pins s σ H Q I (i σ H Q q)⟩
theorem opwk {f : Value → Value → Sem Value} {r r' : R2} (h : OpR X f r) (i : ∀ x y H Q, r' x y H Q → r x y H Q) : OpR X f r' :=
  fun pins s σ H x y v u Q I rx ry q => h pins s σ H x y v u Q I rx ry (i x y H Q q)
theorem unwk {f : Value → Sem Value} {r r' : V → Hp → VK → Prop} (h : UnR X f r) (i : ∀ x H Q, r' x H Q → r x H Q) : UnR X f r' :=
  fun pins s σ H x v Q I rx q => h pins s σ H x v Q I rx (i x H Q q)
theorem cwk {f : Value} {r r' : List V → Hp → VK → Prop} (h : CallR X f r) (i : ∀ x H Q, r' x H Q → r x H Q) : CallR X f r' :=
  fun pins s σ H x v Q I rx q => h pins s σ H x v Q I rx (i x H Q q)
theorem ixwk {r r' : R2} (h : IxR X r) (i : ∀ x y H Q, r' x y H Q → r x y H Q) : IxR X r' :=
  fun a b pins s σ H x y v u Q I rx ry q => h a b pins s σ H x y v u Q I rx ry (i x y H Q q)
theorem slwk {r r' : V → Option Int → Option Int → Hp → VK → Prop} (h : SlR X r) (i : ∀ x a b H Q, r' x a b H Q → r x a b H Q) : SlR X r' :=
  fun pins s σ H x v vl vu lo hi sl Q I rx hs pl pu q => h pins s σ H x v vl vu lo hi sl Q I rx hs pl pu (i x lo hi H Q q)

/-! ### a name in its slot -/
def tV (i : Nat) : TE := fun σ H Q => match σ[i]? with | some (some v) => Q v H | _ => False
theorem v_ (i : Nat) {x : Str} {pos : Pos} (hN : X.N[i]? = some x := by rfl) (hv : Vis X.env.scope x := by first | exact Or.inl rfl | exact Or.inr (Or.inl rfl) | exact Or.inr (Or.inr rfl)) (hd : (x == ("__debug__" : Str)) = false := by decide)
    (hcd : (x == ("__classdict__" : Str)) = false := by decide) : PE X (.Name x pos) (tV i) :=
  wk (pv i hN hv hd hcd) fun σ H Q q => by
    unfold tV at q
    split at q
    · rename_i v e; exact ⟨v, e, q⟩
    · exact q.elim

/-! ### operators -/
def addM (K : PySem.W.Frag) : R2 := fun x y H Q => match x, y with
  | .int i, .int j => Q (.int (i + j)) H
  | .str i, .str j => i.length + j.length ≤ sizeLine ∧ Q (.str (i ++ j)) H
  | .ref a, .ref b => (∃ xs zs, H a = some (.lst xs) ∧ H b = some (.lst zs) ∧ xs.length + zs.length ≤ sizeLine ∧ ∀ p, H p = none → Q (.ref p) (upd H p (.lst (xs ++ zs)))) ∨ rCatT K (.ref a) (.ref b) H Q
  | _, _ => False
theorem op_addM : OpR X (binaryOp .Add) (addM X.K) := opwk (OpR.or op_add (OpR.or op_add_str (OpR.or op_cat op_catT))) fun x y H Q q => by
  unfold addM at q
  split at q
  · exact .inl ⟨_, _, rfl, rfl, q⟩
  · exact .inr (.inl ⟨_, _, rfl, rfl, q⟩)
  · rcases q with ⟨xs, zs, h1, h2, h3, h4⟩ | q
    · exact .inr (.inr (.inl ⟨_, _, xs, zs, rfl, rfl, h1, h2, h3, h4⟩))
    · exact .inr (.inr (.inr q))
  · exact q.elim
def subM : R2 := fun x y H Q => match x, y with
  | .int i, .int j => Q (.int (i - j)) H
  | _, _ => False
theorem op_subM : OpR X (binaryOp .Sub) subM := opwk op_sub fun x y H Q q => by
  unfold subM at q
  split at q
  · exact ⟨_, _, rfl, rfl, q⟩
  · exact q.elim
def mulM : R2 := fun x y H Q => match x, y with
  | .int i, .int j => (CMul i j ∨ CMulW i j) ∧ Q (.int (i * j)) H
  | .ref l, .int k => ∃ xs, H l = some (.lst xs) ∧ (-(2 ^ 63) ≤ k ∧ k < 2 ^ 63) ∧ xs.length * k.toNat ≤ sizeLine ∧ ∀ p, H p = none → Q (.ref p) (upd H p (.lst (List.replicate k.toNat xs).flatten))
  | _, _ => False
theorem op_mulM : OpR X (binaryOp .Mult) mulM := opwk (OpR.or op_mul (OpR.or op_mulW op_rep)) fun x y H Q q => by
  unfold mulM at q
  split at q
  · obtain ⟨h | h, q⟩ := q
    · exact .inl ⟨_, _, rfl, rfl, h, q⟩
    · exact .inr (.inl ⟨_, _, rfl, rfl, h, q⟩)
  · obtain ⟨xs, h1, h2, h3, h4⟩ := q
    exact .inr (.inr ⟨_, _, xs, rfl, rfl, h1, h2.1, h2.2, h3, h4⟩)
  · exact q.elim
def divM : R2 := fun x y H Q => match x, y with
  | .int i, .int j => (CDiv i j ∨ CDivW i j) ∧ Q (.int (i / j)) H
  | _, _ => False
theorem op_divM : OpR X (binaryOp .FloorDiv) divM := opwk (OpR.or op_fdiv op_fdivW) fun x y H Q q => by
  unfold divM at q
  split at q
  · obtain ⟨h | h, q⟩ := q
    · exact .inl ⟨_, _, rfl, rfl, h, q⟩
    · exact .inr ⟨_, _, rfl, rfl, h, q⟩
  · exact q.elim
def modM : R2 := fun x y H Q => match x, y with
  | .int i, .int j => 0 < j ∧ Q (.int (i % j)) H
  | _, _ => False
theorem op_modM : OpR X (binaryOp .Mod) modM := opwk op_mod fun x y H Q q => by
  unfold modM at q
  split at q
  · exact ⟨_, _, rfl, rfl, q.1, q.2⟩
  · exact q.elim
def powM : R2 := fun x y H Q => match x, y with
  | .int i, .int j => CPow i j ∧ Q (.int (i ^ j.toNat)) H
  | _, _ => False
theorem op_powM : OpR X (binaryOp .Pow) powM := opwk op_pow fun x y H Q q => by
  unfold powM at q
  split at q
  · exact ⟨_, _, rfl, rfl, q.1, q.2⟩
  · exact q.elim
def negM : V → Hp → VK → Prop := fun x H Q => match x with
  | .int i => Q (.int (-i)) H
  | _ => False
theorem un_negM : UnR X (unaryOp .USub) negM := unwk un_neg fun x H Q q => by
  unfold negM at q
  split at q
  · exact ⟨_, rfl, q⟩
  · exact q.elim

/-! ### comparisons -/
def cmpM (f : Int → Int → Bool) : R2 := fun x y H Q => match x, y with
  | .int i, .int j => Q (.bl (f i j)) H
  | _, _ => False
theorem cmpwk {f : Int → Int → Bool} {g : Value → Value → Sem Value} (h : OpR X g (rI0 fun i j => .bl (f i j))) : OpR X g (cmpM f) := opwk h fun x y H Q q => by
  unfold cmpM at q
  split at q
  · exact ⟨_, _, rfl, rfl, q⟩
  · exact q.elim
theorem op_ltM : OpR X (compareOp .Lt) (cmpM fun i j => decide (i < j)) := cmpwk op_lt
theorem op_leM : OpR X (compareOp .LtE) (cmpM fun i j => decide (i ≤ j)) := cmpwk op_le
theorem op_gtM : OpR X (compareOp .Gt) (cmpM fun i j => decide (j < i)) := cmpwk op_gt
theorem op_geM : OpR X (compareOp .GtE) (cmpM fun i j => decide (j ≤ i)) := cmpwk op_ge
/-- ==: of plain values by the values; else of data -/
def eqM (K : PySem.W.Frag) : R2 := fun x y H Q => match x, y with
  | .int i, .int j => Q (.bl (decide (i = j))) H
  | .str i, .str j => Q (.bl (decide (i = j))) H
  | .bl i, .bl j => Q (.bl (decide (i = j))) H
  | .non, .non => Q (.bl true) H
  | .non, .int _ => Q (.bl false) H
  | .int _, .non => Q (.bl false) H
  | .non, .str _ => Q (.bl false) H
  | .str _, .non => Q (.bl false) H
  | .non, .bl _ => Q (.bl false) H
  | .bl _, .non => Q (.bl false) H
  | .int _, .str _ => Q (.bl false) H
  | .str _, .int _ => Q (.bl false) H
  | .bl _, .str _ => Q (.bl false) H
  | .str _, .bl _ => Q (.bl false) H
  | x, y => rEqD K x y H Q
theorem op_eqM (hu : X.A.units + 64 < cLine) : OpR X (compareOp .Eq) (eqM X.K) := opwk (OpR.or op_eq (op_eqD hu)) fun x y H Q q => by
  unfold eqM at q
  split at q
  all_goals first
    | exact .inl ⟨rfl, by simpa using q⟩
    | exact .inr q
def neM (K : PySem.W.Frag) : R2 := fun x y H Q => match x, y with
  | .int i, .int j => Q (.bl (!decide (i = j))) H
  | .str i, .str j => Q (.bl (!decide (i = j))) H
  | .bl i, .bl j => Q (.bl (!decide (i = j))) H
  | .non, .non => Q (.bl false) H
  | .non, .int _ => Q (.bl true) H
  | .int _, .non => Q (.bl true) H
  | .non, .str _ => Q (.bl true) H
  | .str _, .non => Q (.bl true) H
  | .non, .bl _ => Q (.bl true) H
  | .bl _, .non => Q (.bl true) H
  | .int _, .str _ => Q (.bl true) H
  | .str _, .int _ => Q (.bl true) H
  | .bl _, .str _ => Q (.bl true) H
  | .str _, .bl _ => Q (.bl true) H
  | x, y => rNeD K x y H Q
theorem op_neM (hu : X.A.units + 64 < cLine) : OpR X (compareOp .NotEq) (neM X.K) := opwk (OpR.or op_ne (op_neD hu)) fun x y H Q q => by
  unfold neM at q
  split at q
  all_goals first
    | exact .inl ⟨rfl, by simpa using q⟩
    | exact .inr q
/-- is, is not: None, True, False -/
def isV (x y : V) : Bool := match x, y with
  | .non, .non => true
  | .bl a, .bl b => a == b
  | _, _ => false
def litV (y : V) : Bool := match y with | .non => true | .bl _ => true | _ => false
def isM : R2 := fun x y H Q => match litV y with | true => Q (.bl (isV x y)) H | false => False
def notM : R2 := fun x y H Q => match litV y with | true => Q (.bl (!isV x y)) H | false => False
theorem lit_cases {y : V} (h : litV y = true) : y = .non ∨ ∃ b, y = .bl b := by
  cases y with
  | non => exact .inl rfl
  | bl b => exact .inr ⟨b, rfl⟩
  | _ => exact absurd (show false = true from h) (by decide)
theorem is_other {A : Around} {E : Value → Shared → Prop} {M : Model} {x : V} {v : Value} {b : Bool} {s : Shared} {Q : Value → Shared → Prop} (rx : RelV x v) (h : Q (.bool (isV x (.bl b))) s) : wpAny M A (compareOp .Is v (.bool b)) Q E s := by
  cases x with
  | bl a =>
    cases rx
    by_cases e : a = b
    · subst e; exact wpAny_is_self rfl (by simpa [isV] using h)
    · exact wpAny_is_other rfl (fun z => e (Value.bool.inj z)) (by rw [show isV (.bl a) (.bl b) = false from beq_eq_false_iff_ne.mpr e] at h; exact h)
  | non => cases rx; exact wpAny_is_other rfl (by intro z; cases z) h
  | int i => obtain ⟨t, rfl⟩ := rx; exact wpAny_is_other rfl (by intro z; cases z) h
  | str i => obtain ⟨t, rfl⟩ := rx; exact wpAny_is_other rfl (by intro z; cases z) h
  | byt i => obtain ⟨t, rfl⟩ := rx; exact wpAny_is_other rfl (by intro z; cases z) h
  | flt i => obtain ⟨t, rfl⟩ := rx; exact wpAny_is_other rfl (by intro z; cases z) h
  | ref a => cases rx; exact wpAny_is_other rfl (by intro z; cases z) h
  | ty n => cases rx; exact wpAny_is_other rfl (by intro z; cases z) h
theorem isnot_other {A : Around} {E : Value → Shared → Prop} {M : Model} {x : V} {v : Value} {b : Bool} {s : Shared} {Q : Value → Shared → Prop} (rx : RelV x v) (h : Q (.bool (!isV x (.bl b))) s) : wpAny M A (compareOp .IsNot v (.bool b)) Q E s := by
  cases x with
  | bl a =>
    cases rx
    by_cases e : a = b
    · subst e; exact wpAny_isNot_self rfl (by simpa [isV] using h)
    · exact wpAny_isNot_other rfl (fun z => e (Value.bool.inj z)) (by rw [show isV (.bl a) (.bl b) = false from beq_eq_false_iff_ne.mpr e] at h; exact h)
  | non => cases rx; exact wpAny_isNot_other rfl (by intro z; cases z) h
  | int i => obtain ⟨t, rfl⟩ := rx; exact wpAny_isNot_other rfl (by intro z; cases z) h
  | str i => obtain ⟨t, rfl⟩ := rx; exact wpAny_isNot_other rfl (by intro z; cases z) h
  | byt i => obtain ⟨t, rfl⟩ := rx; exact wpAny_isNot_other rfl (by intro z; cases z) h
  | flt i => obtain ⟨t, rfl⟩ := rx; exact wpAny_isNot_other rfl (by intro z; cases z) h
  | ref a => cases rx; exact wpAny_isNot_other rfl (by intro z; cases z) h
  | ty n => cases rx; exact wpAny_isNot_other rfl (by intro z; cases z) h
theorem isV_non (x : V) : isV x .non = decide (x = .non) := by cases x <;> rfl
theorem op_isM : OpR X (compareOp .Is) isM := by
  intro pins s σ H x y v u Q I rx ry q
  unfold isM at q
  split at q
  · rename_i e
    rcases lit_cases e with rfl | ⟨b, rfl⟩
    · exact op_isN pins s σ H x .non v u Q I rx ry ⟨rfl, by rw [← isV_non]; exact q⟩
    · cases ry
      exact is_other rx ⟨.bl _, H, I, rfl, q⟩
  · exact q.elim
theorem op_isNotM : OpR X (compareOp .IsNot) notM := by
  intro pins s σ H x y v u Q I rx ry q
  unfold notM at q
  split at q
  · rename_i e
    rcases lit_cases e with rfl | ⟨b, rfl⟩
    · exact op_notN pins s σ H x .non v u Q I rx ry ⟨rfl, by rw [← isV_non]; exact q⟩
    · cases ry
      exact isnot_other rx ⟨.bl _, H, I, rfl, q⟩
  · exact q.elim
/-- in: a list or a tuple of plain things; a sign in a text -/
def inM (K : PySem.W.Frag) (neg : Bool) : R2 := fun x y H Q => match y with
  | .str z => ∃ c : Nat, x = .str ⟨#[c]⟩ ∧ Q (.bl (if neg then !decide (c ∈ z.cps.toList) else decide (c ∈ z.cps.toList))) H
  | .ref p => ∃ xs, (SqL K H p xs ∨ SqT K H p xs) ∧ flatV x = true ∧ xs.all flatV = true ∧ Q (.bl (if neg then !inV x xs else inV x xs)) H
  | _ => False
theorem op_inM : OpR X (compareOp .In) (inM X.K false) := opwk (OpR.or op_in_sign op_in_seq) fun x y H Q q => by
  unfold inM at q
  split at q
  · obtain ⟨c, e, q⟩ := q
    exact .inl ⟨c, _, e, rfl, q⟩
  · obtain ⟨xs, h1, h2, h3, q⟩ := q
    exact .inr ⟨_, xs, rfl, h1, h2, h3, q⟩
  · exact q.elim
theorem op_notInM : OpR X (compareOp .NotIn) (inM X.K true) := opwk (OpR.or op_notIn_sign op_notIn_seq) fun x y H Q q => by
  unfold inM at q
  split at q
  · obtain ⟨c, e, q⟩ := q
    exact .inl ⟨c, _, e, rfl, q⟩
  · obtain ⟨xs, h1, h2, h3, q⟩ := q
    exact .inr ⟨_, xs, rfl, h1, h2, h3, q⟩
  · exact q.elim

/-! ### tests -/
variable {a b : Expr} {rest : List Expr} {ta tb : TE} {pos : Pos}
def tTs (t : TE) : TT := fun σ H Q => t σ H fun x H' => match x with | .bl k => Q k H' | _ => False
theorem pt_c {op : CmpOp} {r : R2} (ho : OpR X (compareOp op) r) (ha : PE X a ta) (hb : PE X b tb) (hm : behindInMarks op b = false := by first | exact nomark _ | rfl) : PT X (.Compare a [op] [b] pos) (tTs (tOp r ta tb)) := by
  refine ⟨fun pins s σ H Q I h => ?_⟩
  refine wpAny_isTrue_Compare1 (thn (ha.run pins s σ H _ I h) fun v s1 ⟨x, H1, I1, r1, q1⟩ => thn (hb.run pins s1 σ H1 _ I1 q1) fun u s2 ⟨y, H2, I2, r2, q2⟩ =>
    thn (ho pins s2 σ H2 x y v u _ I2 r1 r2 q2) fun c s3 ⟨z, H3, I3, r3, q3⟩ => ?_) hm
  cases z with
  | bl k => cases r3; exact wpAny_truthy_bool ⟨H3, I3, q3⟩
  | _ => exact (show False from q3).elim
theorem pe_c {op : CmpOp} {r : R2} (ho : OpR X (compareOp op) r) (ha : PE X a ta) (hb : PE X b tb) (hm : behindInMarks op b = false := by first | exact nomark _ | rfl) : PE X (.Compare a [op] [b] pos) (tOp r ta tb) := pe_cmpR ho ha hb hm
/-- any value's truth -/
def tTr (K : PySem.W.Frag) (t : TE) : TT := fun σ H Q => t σ H fun x H' => match x with
  | .bl k => Q k H'
  | .non => Q false H'
  | .int i => Q (i != 0) H'
  | .str y => y.length ≤ sizeLine ∧ Q ((y.length : Int) != 0) H'
  | .ref p => (∃ xs, SqL K H' p xs ∧ Q (!xs.isEmpty) H') ∨ (∃ xs, SqT K H' p xs ∧ Q (!xs.isEmpty) H') ∨ ∃ kvs, H' p = some (.dK kvs) ∧ Q (!kvs.isEmpty) H'
  | _ => False
theorem pt_tr (ha : PE X a ta) (he : ∀ whole, isTrue a X.env whole = (do let v ← whole; standAt a.pos; holding [v] (truthy v)) := by intro _; rfl) : PT X a (tTr X.K ta) := by
  refine ⟨fun pins s σ H Q I h => ?_⟩
  refine isTrue_plain (thn (ha.run pins s σ H _ I h) fun v s1 ⟨x, H1, I1, r1, q1⟩ => tru_ok pins s1 σ H1 x v Q I1 r1 ?_) (he _)
  cases x with
  | bl k => exact ⟨k, rfl, q1⟩
  | non => exact ⟨false, rfl, q1⟩
  | int i => exact ⟨_, rfl, q1⟩
  | str y => exact ⟨_, ⟨q1.1, rfl⟩, q1.2⟩
  | ref p =>
    rcases (show (∃ xs, SqL X.K H1 p xs ∧ Q (!xs.isEmpty) H1) ∨ (∃ xs, SqT X.K H1 p xs ∧ Q (!xs.isEmpty) H1) ∨ ∃ kvs, H1 p = some (.dK kvs) ∧ Q (!kvs.isEmpty) H1 from q1) with ⟨xs, h, q⟩ | ⟨xs, h, q⟩ | ⟨xs, h, q⟩
    · exact ⟨_, .inl ⟨xs, h, rfl⟩, q⟩
    · exact ⟨_, .inr (.inl ⟨xs, h, rfl⟩), q⟩
    · exact ⟨_, .inr (.inr ⟨xs, h, rfl⟩), q⟩
  | _ => exact (show False from q1).elim
def tAndM (ta tb : TE) : TE := fun σ H Q => ta σ H fun x H1 => match x with | .bl c => (if c = true then tb σ H1 Q else Q (.bl false) H1) | _ => False
def tOrM (ta tb : TE) : TE := fun σ H Q => ta σ H fun x H1 => match x with | .bl c => (if c = true then Q (.bl true) H1 else tb σ H1 Q) | _ => False
def tNotM (ta : TE) : TE := fun σ H Q => ta σ H fun x H1 => match x with | .bl c => Q (.bl (!c)) H1 | _ => False
theorem pe_andM (ha : PE X a ta) (hb : PE X (.BoolOp .And (b :: rest) pos) tb) : PE X (.BoolOp .And (a :: b :: rest) pos) (tAndM ta tb) := by
  refine ⟨fun pins s σ H Q I h => ?_⟩
  refine BoolOp_and (thn (ha.run pins s σ H _ I h) fun v s1 ⟨x, H1, I1, r1, q1⟩ => ?_)
  cases x with
  | bl c =>
    cases r1
    refine wpAny_truthy_bool ?_
    cases c with
    | true => exact hb.run pins s1 σ H1 Q I1 q1
    | false => exact ⟨.bl false, H1, I1, rfl, q1⟩
  | _ => exact (show False from q1).elim
theorem pe_orM (ha : PE X a ta) (hb : PE X (.BoolOp .Or (b :: rest) pos) tb) : PE X (.BoolOp .Or (a :: b :: rest) pos) (tOrM ta tb) := by
  refine ⟨fun pins s σ H Q I h => ?_⟩
  refine BoolOp_or (thn (ha.run pins s σ H _ I h) fun v s1 ⟨x, H1, I1, r1, q1⟩ => ?_)
  cases x with
  | bl c =>
    cases r1
    refine wpAny_truthy_bool ?_
    cases c with
    | false => exact hb.run pins s1 σ H1 Q I1 q1
    | true => exact ⟨.bl true, H1, I1, rfl, q1⟩
  | _ => exact (show False from q1).elim
theorem pe_notM (ha : PE X a ta) : PE X (.UnaryOp .Not a pos) (tNotM ta) := by
  refine ⟨fun pins s σ H Q I h => ?_⟩
  refine UnaryOp_ (thn (ha.run pins s σ H _ I h) fun v s1 ⟨x, H1, I1, r1, q1⟩ => ?_)
  cases x with
  | bl c => cases r1; exact not_of (wpAny_truthy_bool ⟨.bl (!c), H1, I1, rfl, q1⟩)
  | _ => exact (show False from q1).elim

/-! ### subscripts, slices, calls of built-ins -/
def ixM (K : PySem.W.Frag) : R2 := fun x y H Q => match x, y with
  | .str z, .int i => z.length ≤ sizeLine ∧ ∃ c, atI z.cps.toList i = some c ∧ Q (.str ⟨#[c]⟩) H
  | .ref p, .int i => ∃ xs, (SqL K H p xs ∨ SqT K H p xs) ∧ ∃ v, atI xs i = some v ∧ Q v H
  | _, _ => False
theorem ix_M : IxR X (ixM X.K) := ixwk ix_seq fun x y H Q q => by
  unfold ixM at q
  split at q
  · obtain ⟨h, c, e, q⟩ := q
    exact .inr (.inr ⟨_, _, c, rfl, rfl, h, e, q⟩)
  · obtain ⟨xs, h | h, v, e, q⟩ := q
    · exact .inl ⟨_, xs, _, v, rfl, rfl, h, e, q⟩
    · exact .inr (.inl ⟨_, xs, _, v, rfl, rfl, h, e, q⟩)
  · exact q.elim
theorem e_ix (ha : PE X a ta) (hb : PE X b tb) (hs : PlainIx b := by intro _ _; rfl) : PE X (.Subscript a b pos) (tOp (ixM X.K) ta tb) := pe_ix ix_M ha hb hs
def slM (K : PySem.W.Frag) : V → Option Int → Option Int → Hp → VK → Prop := fun x lo hi H Q => match x with
  | .str z => z.length ≤ sizeLine ∧ Q (.str (cutS z lo hi)) H
  | .ref p => (∃ xs, SqL K H p xs ∧ ∀ q, H q = none → Q (.ref q) (upd H q (.lst (cutV xs lo hi)))) ∨ rSlT K (.ref p) lo hi H Q
  | _ => False
theorem sl_M : SlR X (slM X.K) := slwk (SlR.or sl_str (SlR.or sl_list sl_tup)) fun x lo hi H Q q => by
  unfold slM at q
  split at q
  · exact .inl ⟨_, rfl, q.1, q.2⟩
  · rcases q with ⟨xs, h, q⟩ | q
    · exact .inr (.inl ⟨_, xs, rfl, h, q⟩)
    · exact .inr (.inr q)
  · exact q.elim
def intM : List V → Hp → VK → Prop := fun xs H Q => match xs with
  | [.int i] => Q (.int i) H
  | [.bl k] => Q (.int (if k then 1 else 0)) H
  | [.str a] => ∃ n, PySem.intText? a = some n ∧ a.length ≤ 640 ∧ Q (.int n) H
  | _ => False
theorem call_intM : CallR X (.type "int") intM := cwk (CallR.or call_int1 call_int_str) fun xs H Q q => by
  unfold intM at q
  split at q
  · exact .inl (.inl ⟨_, rfl, q⟩)
  · exact .inl (.inr ⟨_, rfl, q⟩)
  · obtain ⟨n, h1, h2, q⟩ := q
    exact .inr ⟨_, n, rfl, h1, h2, q⟩
  · exact q.elim
def lenM (K : PySem.W.Frag) : List V → Hp → VK → Prop := fun xs H Q => match xs with
  | [.str z] => z.length ≤ sizeLine ∧ Q (.int z.length) H
  | [.ref p] => (∃ xs, (SqL K H p xs ∨ SqT K H p xs) ∧ Q (.int xs.length) H) ∨ ∃ kvs, H p = some (.dK kvs) ∧ Q (.int kvs.length) H
  | _ => False
theorem call_lenM : CallR X (.builtin "len") (lenM X.K) := cwk (CallR.or call_len_str (CallR.or call_len_seq call_lenD)) fun xs H Q q => by
  unfold lenM at q
  split at q
  · exact .inl ⟨_, rfl, q.1, q.2⟩
  · rcases q with ⟨xs, h, q⟩ | ⟨kvs, h, q⟩
    · exact .inr (.inl ⟨_, xs, rfl, h, q⟩)
    · exact .inr (.inr ⟨_, kvs, rfl, h, q⟩)
  · exact q.elim

/-! ### the same, the written part named -/
theorem addK (K : PySem.W.Frag) (h : X.K = K := by rfl) : OpR X (binaryOp .Add) (addM K) := h ▸ op_addM
theorem eqK (K : PySem.W.Frag) (hu : X.A.units + 64 < cLine) (h : X.K = K := by rfl) : OpR X (compareOp .Eq) (eqM K) := h ▸ op_eqM hu
theorem neK (K : PySem.W.Frag) (hu : X.A.units + 64 < cLine) (h : X.K = K := by rfl) : OpR X (compareOp .NotEq) (neM K) := h ▸ op_neM hu
theorem inK (K : PySem.W.Frag) (h : X.K = K := by rfl) : OpR X (compareOp .In) (inM K false) := h ▸ op_inM
theorem notInK (K : PySem.W.Frag) (h : X.K = K := by rfl) : OpR X (compareOp .NotIn) (inM K true) := h ▸ op_notInM
theorem pt_t (K : PySem.W.Frag) (ha : PE X a ta) (he : ∀ whole, isTrue a X.env whole = (do let v ← whole; standAt a.pos; holding [v] (truthy v)) := by intro _; rfl) (h : X.K = K := by rfl) : PT X a (tTr K ta) := h ▸ pt_tr ha he
theorem e_x (K : PySem.W.Frag) (ha : PE X a ta) (hb : PE X b tb) (hs : PlainIx b := by intro _ _; rfl) (h : X.K = K := by rfl) : PE X (.Subscript a b pos) (tOp (ixM K) ta tb) := h ▸ e_ix ha hb hs
theorem slK (K : PySem.W.Frag) (h : X.K = K := by rfl) : SlR X (slM K) := h ▸ sl_M
theorem lenK (K : PySem.W.Frag) (h : X.K = K := by rfl) : CallR X (.builtin "len") (lenM K) := h ▸ call_lenM
theorem listK (K : PySem.W.Frag) (h : X.K = K := by rfl) : CallR X (.type "list") (fun xs H Q => ∃ p ys, xs = [.ref p] ∧ (SqL K H p ys ∨ SqT K H p ys) ∧ ∀ l, H l = none → Q (.ref l) (upd H l (.lst ys))) := h ▸ call_list_of
theorem tupleK (K : PySem.W.Frag) (h : X.K = K := by rfl) : CallR X (.type "tuple") (fun xs H Q => ∃ p ys, xs = [.ref p] ∧ ((SqL K H p ys ∧ ∀ l, H l = none → Q (.ref l) (upd H l (.tup ys))) ∨ (SqT K H p ys ∧ Q (.ref p) H))) := h ▸ call_tuple_of
theorem isiK (K : PySem.W.Frag) (h : X.K = K := by rfl) : CallR X (.builtin "isinstance") (rIsi K) := h ▸ call_isi
theorem allK (K : PySem.W.Frag) (hc : X.calm = true) (h : X.K = K := by rfl) : CallR X (.builtin "all") (rAll K) := h ▸ cr_all hc
theorem anyK (K : PySem.W.Frag) (hc : X.calm = true) (h : X.K = K := by rfl) : CallR X (.builtin "any") (rAny K) := h ▸ cr_any hc
theorem sortedK (K : PySem.W.Frag) (h : X.K = K := by rfl) : CallR X (.builtin "sorted") (rSorted K) := h ▸ cr_sorted
theorem sumK (K : PySem.W.Frag) (hc : X.calm = true) (h : X.K = K := by rfl) : CallR X (.builtin "sum") (rSum K) := h ▸ cr_sum hc

/-! ### calls of own defs -/
structure Cal (P : Program) (w : World) (K : PySem.W.Frag) (mg : Str → Option Value) (base : Heap) (CX : CXT) (k : Nat) (x : Str) (f : Addr) (fd : FuncData) (ps : List Str) (sp : Sp) : Prop where
  G : FnOk P w K mg base CX k f fd ps sp
  b : Binds K fd ps []
  kp : PySem.W.keepIn K (.ref f) = true
  m : mg x = some (.ref f)
end
end El

set_option Elab.async false
set_option linter.all false
set_option maxRecDepth 100000
set_option maxHeartbeats 4000000
/-! Own words: an own exception's first row super().__init__(e), the rest of its __init__ by the layer. -/
namespace El
open PySem PySem.Spec PyProof.Rows L2 NdefX
abbrev supRow (p0 p1 p2 p3 p4 : Pos) (e1 : Expr) : Stmt := .Expr (.Call (.Attribute (.Call (.Name "super" p0) [] [] p1) "__init__" p2) [e1] [] p3) p4
abbrev supNF (name qual : Str) (params : Arguments) (body : List Stmt) (scope : Scope) (cc cda : Addr) : NF := ⟨name, qual, params, body, scope, [("__class__", cc)], cda⟩

theorem inv_unpin {X : Cx} {pins : List (Addr × Obj)} {σ : L2.St} {H : Hp} {s : Shared} (I : Inv X pins σ H s) : Inv X [] σ H s := I.pins_of fun p hp => absurd hp (by simp)

theorem fn_super {P : Program} {w : World} {K : PySem.W.Frag} {mg : Str → Option Value} {base : Heap} {CX : CXT} {k : Nat} {f cc cda D : Addr} {name qual : Str} {params : Arguments} {scope : Scope} {doc pm ct oc ccl cl : Value} {od cdd cld : Option Addr} {osl ccs csl : Array (Option Value)} {vs0 : Array Value} {file : Str} {tf : Tok} {cdD : ClassData}
    {N ps : List Str} {sp : Sp} {e1 : Expr} {rest : List Stmt} {p0 p1 p2 p3 p4 : Pos} {ar : Arg}
    (lk : K.lookup f = some ⟨oc, od, .func (PySem.W.fnX name qual params (supRow p0 p1 p2 p3 p4 e1 :: rest) scope [("__class__", cc)] .none .none doc pm none (.ref cda) ct), osl⟩)
    (hcd : PySem.W.codeIn K (.ref cda) qual = true) (S : NScope N ps ["__class__"] scope)
    (hcode : K.lookup cda = some ⟨ccl, cdd, .fields vs0, ccs⟩) (hvs : vs0[2]? = some (.str file tf)) (hfile : ((P.main.file : Str) == file) = true)
    (hcell : K.lookup cc = some ⟨cl, cld, .cell (some (.ref D)), csl⟩) (hD : PySem.W.clsIn K D = some cdD) (hsuper : mg "super" = none)
    (hop : PySem.W.nsIn K PySem.cStatics "thirdparty.any" = some none)
    (hp : (params.posonlyargs ++ params.args).head? = some ar) (hps : ps[0]? = some ar.arg)
    (hks : scope.names.lookup ("super" : Str) = some .globalImplicit) (htop : (P.main.scope.names.lookup ("super" : Str)).isSome = false)
    (hboot : bootBuiltins "super" = some (.type "super"))
    (len : ∀ vs H Q E, sp vs H Q E → vs.length = ps.length)
    (hbody : ∀ (A : Around) (outer : List Env) (s : Shared) (H : Hp) (vs : List V) (Q : VK) (E : XK), Room k (A.deeper (envF (supNF name qual params (supRow p0 p1 p2 p3 p4 e1 :: rest) scope cc cda) f s.heap.objs.size)) → sp vs H Q E →
      ∃ (a C : Addr) (ta : TA) (t : TS), vs[0]? = some (.ref a) ∧ H a = some (exo a C none) ∧ OexC K C ∧ PySem.W.mroIn K C (.ref D) = some true ∧ PySem.W.ks_superIn K C D "__init__" = some (some (.builtin "ValueError.__init__")) ∧ PySem.W.subIn K (.ref C) (.type "ValueError") = some true ∧
        PA (ncx CX P w K mg base N (supNF name qual params (supRow p0 p1 p2 p3 p4 e1 :: rest) scope cc cda) f A outer s H E) [e1] ta ∧
        PSs (ncx CX P w K mg base N (supNF name qual params (supRow p0 p1 p2 p3 p4 e1 :: rest) scope cc cda) f A outer s H E) rest t ∧
        ta (startF N vs [none]) H fun ws H1 => H1 a = some (exo a C none) ∧ ws.length ≤ 1000 ∧ t { nx := fun _ H' => Q .non H', rt := Q } (startF N vs [none]) H1)
    (hst : ∀ env : Env, starEach [e1] env = (false, eval e1 env) :: starEach [] env) {pl : Env → Sem Bool}
    (he : ∀ env : Env, eval (.Call (.Attribute (.Call (.Name "super" p0) [] [] p1) "__init__" p2) [e1] [] p3) env = (do
      let ov ← attributeBase (.Call (.Name "super" p0) [] [] p1) "__init__" env (eval (.Call (.Name "super" p0) [] [] p1) env)
      standAt p2.atName
      let (f, first) ← holding [ov] (getMethod ov "__init__" (pl env))
      callWith p3 f first (backTo p3 (starEach [e1] env)) []))
    (hsw : ∀ env : Env, swapsWith (.Call (.Attribute (.Call (.Name "super" p0) [] [] p1) "__init__" p2) [e1] [] p3) none p4.line env = pure false) :
    FnOk P w K mg base CX (k + 1) f (PySem.W.fnX name qual params (supRow p0 p1 p2 p3 p4 e1 :: rest) scope [("__class__", cc)] .none .none doc pm none (.ref cda) ct) ps sp := by
  refine ⟨len, fun A outer s H args us vs Q E hr e0 hb r hsp => ?_⟩
  have hl := len _ _ _ _ hsp
  have KX : K.In s.heap := e0.mod.kin.keeps fun b o e => (e0.bs b o e).1
  have lim : s.heap.NoLimit := e0.mod.nolimit.keeps fun b o e => (e0.bs b o e).1
  have hkc : scope.names.lookup ("__class__" : Str) = some .free := S.frk _ (List.mem_singleton.mpr rfl)
  refine PySem.ks_codeAny_call_defAt (fd := PySem.W.fnX name qual params (supRow p0 p1 p2 p3 p4 e1 :: rest) scope [("__class__", cc)] .none .none doc pm none (.ref cda) ct) (body := supRow p0 p1 p2 p3 p4 e1 :: rest) (binds := ps.zip us) hr.depth (KX _ _ lk) rfl lim
    (PySem.W.codeRec_of KX hcd) rfl hb S.nocell (fun ⟨n, _⟩ hy => S.par n (List.of_mem_zip hy).1) (fun h₁ hns kp => ?_) S.co S.gen S.kind
  obtain ⟨a, C, ta, t, hv0, hexo, TC, hmro, hsup, hsubV, hPA, hPS, hq⟩ := hbody A outer s H vs Q E (hr.deeper _) hsp
  have bcc : base.get? cc = some ⟨cl, cld, .cell (some (.ref D)), csl⟩ := e0.mod.kin _ _ hcell
  have CC : CellsAt [(("__class__" : Str), cc)] ["__class__"] [none] s.heap H := by
    refine ⟨rfl, fun y c e => ?_, fun x y c e1 e2 => ?_, fun i y hi => ?_⟩
    · have : c = cc := by
        simp only [List.lookup] at e
        split at e
        · exact (Option.some.inj e).symm
        · cases e
      subst this
      exact ⟨(e0.bs _ _ bcc).2, _, _, KX _ _ hcell, rfl⟩
    · simp only [List.lookup] at e1 e2
      split at e1
      · rename_i h1
        split at e2
        · rename_i h2
          rw [beq_iff_eq] at h1 h2
          rw [h1, h2]
        · cases e2
      · cases e1
    · have : i = 0 ∧ y = "__class__" := by
        cases i with
        | zero => simp at hi; exact ⟨rfl, hi.symm⟩
        | succ i => simp at hi
      obtain ⟨rfl, rfl⟩ := this
      exact ⟨cc, by simp [List.lookup], fun v hv => by simp at hv⟩
  have I : Inv (ncx CX P w K mg base N (supNF name qual params (supRow p0 p1 p2 p3 p4 e1 :: rest) scope cc cda) f A outer s H E) [] (startF N vs [none]) H { s with heap := h₁, toks := s.toks + (ps.zip us).length } :=
    inv_startN (F := supNF name qual params (supRow p0 p1 p2 p3 p4 e1 :: rest) scope cc cda) S hr.hd e0 hl r CC hns kp
  have KX1 : K.In h₁ := fun b o e => kp b o (KX b o e)
  obtain ⟨oD, hD1, hD2⟩ : ∃ oD, h₁.get? D = some oD ∧ oD.data = .cls cdD := by
    unfold PySem.W.clsIn at hD
    split at hD
    · rename_i c d cd' sl ho
      cases hD
      exact ⟨_, KX1 _ _ ho, rfl⟩
    · cases hD
  have ndP : ps.Nodup := by
    have q := S.nd.sublist (List.take_sublist (ps.length + 1) N)
    rw [show N.take (ps.length + 1) = ps ++ [("__class__" : Str)] from S.pre] at q
    exact (List.nodup_append.mp q).1
  obtain ⟨u0, hu0, ru0⟩ := r.get hv0
  obtain rfl : u0 = Value.ref a := ru0
  obtain ⟨t1, hga⟩ := exo_at I.hok hexo
  have hint : interactive (envF (supNF name qual params (supRow p0 p1 p2 p3 p4 e1 :: rest) scope cc cda) f s.heap.objs.size) = false := by
    have hk := S.kind
    unfold interactive
    simp [Env.blockKind, hk]
  refine PySem.ks_wpAt_execs_cons (PySem.ks_wpAt_Expr_any (PySem.ks_wpAt_MethodCall (PySem.ks_wpAt_super_base (ar := ar) hks hkc (by decide +kernel) rfl (KX1 _ _ lk) rfl hp rfl (KX1 _ _ hcode) rfl hvs hfile htop ?_) (he _)) hint (hsw _))
  obtain ⟨mb, hb1, hb2⟩ := e0.mod.blt
  have kb : ∀ b o, base.get? b = some o → h₁.get? b = some o := fun b o e => kp b o (e0.bs b o e).1
  refine PySem.W.ks_loadName_global S.kind hks (Calls.loadGlobal_builtin (e0.mod.glob.keeps kb) hsuper (hb1.keeps kb) ((hb2 _ (by decide)).trans hboot) ⟨rfl, ?_⟩)
  refine wpAny_loadName_free S.kind hkc rfl ⟨_, KX1 _ _ hcell, rfl⟩ ?_
  refine wpAny_loadName_local S.kind (S.par _ (List.mem_of_getElem? hps)) hns (zip_look ndP hps hu0) ?_
  refine PySem.ks_wpAny_isType_cls hD1 hD2 ⟨rfl, ?_⟩
  refine PySem.ks_wpAny_call_super hD1 hD2 hga rfl (fun c e => by cases e) (PySem.W.looks_mroIn KX1 hmro) (fun h2 eso k2 => ?_)
  have I2 : Inv (ncx CX P w K mg base N (supNF name qual params (supRow p0 p1 p2 p3 p4 e1 :: rest) scope cc cda) f A outer s H E) [] (startF N vs [none]) H { s with heap := h2, toks := s.toks + (ps.zip us).length } := I.kept k2
  have KX2 : K.In h2 := fun b o e => k2 b o (KX1 b o e)
  cases hcC : PySem.W.clsIn K C with
  | none => unfold PySem.W.ks_superIn at hsup; rw [hcC] at hsup; cases hsup
  | some cd =>
  unfold PySem.W.ks_superIn at hsup
  rw [hcC] at hsup
  have hga2 := k2 _ _ hga
  have INS : PySem.W.InstAt h2 a { cls := .ref C, dict := none, data := .fields #[.ref t1, .none, .none, .none, .bool false, .none] } C none := ⟨hga2, rfl, rfl, trivial⟩
  have hI : PySem.W.Looks (model P w) h2 (isInstance (.ref a) (.type "ValueError")) true := INS.type.andThen (PySem.W.looks_subIn KX2 hsubV)
  refine PySem.W.kxs_getMethod PySem.W.kxs_ValueError eso (PySem.W.looks_opaque KX2 hop) (l₀ := cd.mro) (fun A Q E s k q => wpAny_bind ((PySem.W.looks_clsIn KX2 hcC) A _ E s k (wpAny_pure q))) rfl KX2 hsup hI (PySem.W.ks_ne KX2 INS hcC) (by decide +kernel) ?_
  have I3 : Inv (ncx CX P w K mg base N (supNF name qual params (supRow p0 p1 p2 p3 p4 e1 :: rest) scope cc cda) f A outer s H E) [] (startF N vs [none]) H { s with heap := h2.push (PySem.W.kxs_mw "ValueError.__init__" a), toks := s.toks + (ps.zip us).length + 1 } := I2.kept fun b o e => Heap.get?_push_of_some _ e
  have hu : (h2.push (PySem.W.kxs_mw "ValueError.__init__" a)).get? h2.objs.size = some (PySem.W.kxs_mw "ValueError.__init__" a) := Heap.get?_push_at rfl rfl
  have hfree : H h2.objs.size = none := I2.hok.fresh (Nat.le_refl _)
  have I4 : Inv (ncx CX P w K mg base N (supNF name qual params (supRow p0 p1 p2 p3 p4 e1 :: rest) scope cc cda) f A outer s H E) [(h2.objs.size, PySem.W.kxs_mw "ValueError.__init__" a)] (startF N vs [none]) H { s with heap := h2.push (PySem.W.kxs_mw "ValueError.__init__" a), toks := s.toks + (ps.zip us).length + 1 } :=
    I3.pins_of fun p hp => by
      obtain rfl := List.mem_singleton.mp hp
      exact ⟨hu, hfree, fun z => absurd I2.lt (by rw [← z]; exact Nat.lt_irrefl _), I2.nofs (Nat.le_refl _), fun v z => by cases z⟩
  show wpAny _ _ (callWith p3 (.ref h2.objs.size) [] (backTo p3 (starEach [e1] _)) []) _ _ _
  rw [hst]
  refine PySem.W.kxs_callWith (i := "ValueError.__init__") (x := a) rfl (Calls.evalArgs_plain ?_)
  have hrun := hPA.run p3 _ _ _ _ _ I4 hq
  rw [hst] at hrun
  refine thn hrun fun us' s4 ⟨ws, H1, I5, r5, hexo1, hws, hq1⟩ => ?_
  have hu5 : s4.heap.get? h2.objs.size = some (PySem.W.kxs_mw "ValueError.__init__" a) := (I5.pin (h2.objs.size, PySem.W.kxs_mw "ValueError.__init__" a) (List.mem_append_right _ (List.mem_singleton.mpr rfl))).1
  refine ⟨hu5, ?_⟩
  obtain ⟨nm, q9, N9, bs, bm, sn, sub, ab, col, dd, k0, k1, k2', k3, k5, hC, hbm⟩ := TC.cls
  obtain ⟨t2, hga5⟩ := exo_at I5.hok hexo1
  have hC5 := I5.kIn _ _ hC
  have hus : us'.length ≤ sizeLine := by
    rw [← Paired.length r5, sizeLine_eq]
    omega
  obtain ⟨h5, g5, d5, tk5, os5⟩ := s4
  show wpAny _ _ (call (.ref h2.objs.size) ([] ++ us')) _ _ _
  rw [List.nil_append]
  refine wpAny_call (codeAny_of_tree ?_)
  show wpAny _ _ (callAny (.ref h2.objs.size) ⟨us', []⟩) _ _ _
  simp only [callAny]
  refine wpAny_bind (wpAny_load hu5 ?_)
  simp only [PySem.W.kxs_mw, show (Value.type "method-wrapper" == Value.type "method" || Value.type "method-wrapper" == Value.type "builtin_function_or_method" || Value.type "method-wrapper" == Value.type "method-wrapper") = true by decide, if_true]
  refine PySem.W.KFB.if_so (by decide) ?_
  refine wpAny_bind (PySem.W.check_bound_init PySem.F.excBase_ValueError.toExcCallFacts hC5 hga5 rfl ?_)
  refine wpAny_bind (wpAny_pure (wpAny_pure ?_))
  refine ⟨plainId_quiet PySem.F.excBase_ValueError.init.plain _, codeAny_builtin PySem.F.excBase_ValueError.initEntry ?_⟩
  refine PySem.W.exc_init_tree (cls := .ref C) (t0 := t2) (dv := none) (c2 := .none) (c3 := .none) (b4 := .bool false) hga5 hus (fun h6 k6 e6 _ => ?_)
  have J := I5.write (t' := tk5) (x := a) (e := a) (o := exo a C none) (by rw [hexo1]; exact True.intro) (.inl rfl) k6 ⟨_, e6⟩ (exo_ok e6)
  have eu : upd H1 a (exo a C none) = H1 := by
    funext b
    by_cases hb : b = a
    · rw [hb, upd_same, hexo1]
    · rw [upd_ne hb]
  rw [eu] at J
  have J0 := inv_unpin J
  refine wpAt_of_wpAny ?_
  refine wpAny_mono (hPS.run [] _ _ H1 _ J0 hq1) (fun fl s' hs => ?_) fun e s' hs => hs
  have fin : ∀ {σ' : L2.St} {H' : Hp} {v : V} {u : Value}, Inv (ncx CX P w K mg base N (supNF name qual params (supRow p0 p1 p2 p3 p4 e1 :: rest) scope cc cda) f A outer s H E) [] σ' H' s' → L2.RelV v u → Q v H' → CE outer P w H s Q u s' :=
    fun {σ' H' v u} J rv q => ⟨v, H', J.os, J.bare, J.base, J.hok, rv, q⟩
  cases fl with
  | ret u =>
    obtain ⟨v, σ', H', J, rv, q⟩ := hs
    exact fin J rv q
  | next =>
    obtain ⟨σ', H', J, q⟩ := hs
    exact fin (v := V.non) (u := Value.none) J rfl q
  | brk =>
    obtain ⟨_, _, _, q⟩ := hs
    exact False.elim q
  | cont =>
    obtain ⟨_, _, _, q⟩ := hs
    exact False.elim q
end El

set_option Elab.async false
set_option linter.all false
set_option maxRecDepth 100000
set_option maxHeartbeats 4000000
/-! Own words: what the written part says of an own exception class, isinstance of what an except clause holds. -/
namespace El
open PySem PySem.Spec PyProof.Rows L2 NdefX
/-- isinstance(e, c), e the exception that the suite holds, with a dict -/
def rIsX (K : PySem.W.Frag) (cls : Value) (d : Option Addr) (a : Addr) : List V → Hp → VK → Prop := fun xs H Q => ∃ (D dd : Addr) (fs : List (Str × V)) (c : V) (cv : Value) (b : Bool), xs = [.ref a, c] ∧ cls = .ref D ∧ d = some dd ∧ H dd = some (.xd fs) ∧ ExcC K D ∧ (∀ u, RelV c u → u = cv) ∧ PySem.W.kitOne K (.ref D) cv = some b ∧ Q (.bl b) H
theorem call_isX {X : Cx} {a : Addr} {oe : Obj} {cls : Value} {d : Option Addr} {pn : List (Addr × Obj)} (hz : Zc cls d oe) (hf : ∃ vs, oe.data = .fields vs) : CallR (X.suite a ((a, oe) :: pn)) (.builtin "isinstance") (rIsX X.K cls d a) := by
  intro pins s σ H xs us Q I r h
  obtain ⟨D, dd, fs, c, cv, b, rfl, rfl, rfl, ea, C, hcv, e, q⟩ := h
  cases r with
  | cons rx rr =>
    cases rr with
    | cons rt rr =>
      cases rr
      cases rx
      have ec := hcv _ rt
      subst ec
      obtain ⟨hget, _⟩ := I.pin (a, oe) (List.mem_append.mpr (.inl List.mem_cons_self))
      obtain ⟨vs, hv⟩ := hf
      have hx : ObjOk X.prog X.w H s.heap dd (.xd fs) := I.hok dd _ ea
      obtain ⟨mA, hns, hr⟩ := hx
      obtain ⟨od, ho, hl⟩ := lookIn_ns hns
      have J : PySem.W.InstAt s.heap a oe D (some od) := ⟨hget, hz.1, by unfold PySem.W.notCls; rw [hv] <;> rfl, by rw [hz.2]; exact ho⟩
      obtain ⟨cdD, hcD, _⟩ := PySem.W.any_some C.hd
      exact PySem.W.kia_one (PySem.W.kitx_exc (by rw [hcD]; rfl) C.hg C.hk C.hs C.ha C.hn C.ht C.hm) I.kIn J e (fun z => nomatch z) fun tk => ⟨.bl b, H, I.kept (t' := tk) fun _ _ z => z, rfl, q⟩
/-- an own exception class with its own __init__ -/
structure ExK (K : PySem.W.Frag) (C fI : Addr) (fields : List Str) : Prop where
  oex : OexC K C
  sup : PySem.W.ks_superIn K C C "__init__" = some (some (.builtin "ValueError.__init__"))
  subV : PySem.W.subIn K (.ref C) (.type "ValueError") = some true
  mro : PySem.W.mroIn K C (.ref C) = some true
  iC : PySem.W.findIn K (.ref C) "__init__" = some (some (.ref fI))
  tI : PySem.W.typeIn K (.ref fI) = some (.type "function")
  no : ∀ f ∈ fields, PySem.W.findIn K (.ref C) f = some none
  xf : XfC K C
  is : ExcC K C
/-- what a suite that catches it must know -/
structure ExV (K : PySem.W.Frag) (C : Addr) (fields : List Str) : Prop where
  no : ∀ f ∈ fields, PySem.W.findIn K (.ref C) f = some none
  xf : XfC K C
  is : ExcC K C
/-- the i-th def of the class body -/
def mthS (s : Stmt) (i : Nat) : Stmt := match s with
  | .ClassDef _ _ _ b _ _ _ _ _ _ _ => b.getD i (.Pass ⟨0, 0, 0, 0⟩)
  | _ => .Pass ⟨0, 0, 0, 0⟩
/-- the same, from what the written part answers -/
theorem exk_mk {K : PySem.W.Frag} {C fI N : Addr} {fields : List Str} {nm q : Str} {bs bm : List Value} {sn : List Str} {sub : List Value} {ab : Bool} {col : Option Bool} {dd : Option Addr} {k0 k1 k2 k3 k5 : Option Value}
    (cls : K.lookup C = some (excClassObj nm q C N bs bm true sn sub ab col dd k0 k1 k2 k3 k5 "ValueError.__new__")) (ref : PySem.HandSPX.refsVE bm = true)
    (sa : PySem.W.findIn K (.ref C) "__setattr__" = some (some (.builtin "object.__setattr__"))) (exC : PySem.W.subIn K (.ref C) (.type "BaseException") = some true) (tyC : PySem.W.typeIn K (.ref C) = some (.type "type")) (kC : PySem.W.keepIn K (.ref C) = true)
    (sup : PySem.W.ks_superIn K C C "__init__" = some (some (.builtin "ValueError.__init__"))) (subV : PySem.W.subIn K (.ref C) (.type "ValueError") = some true) (mro : PySem.W.mroIn K C (.ref C) = some true)
    (iC : PySem.W.findIn K (.ref C) "__init__" = some (some (.ref fI))) (tI : PySem.W.typeIn K (.ref fI) = some (.type "function")) (no : ∀ f ∈ fields, PySem.W.findIn K (.ref C) f = some none)
    (ga : PySem.W.findIn K (.ref C) "__getattribute__" = some (some (.builtin "BaseException.__getattribute__"))) (gg : PySem.W.findIn K (.ref C) "__getattr__" = some none) (hd : PySem.W.hasDictIn K C = true)
    (hcl : PySem.W.findIn K (.ref C) "__class__" = some (some (.builtin "object.__class__"))) (hn : PySem.W.specialIn K (.builtin "object.__class__") "__get__" = some (some (.builtin "getset_descriptor.__get__"))) (ht : PySem.W.takesIn K (.builtin "object.__class__") = some true) (hm : PySem.W.mroIn K C (.type "object") = some true) : ExK K C fI fields :=
  ⟨⟨⟨nm, q, N, bs, bm, sn, sub, ab, col, dd, k0, k1, k2, k3, k5, cls, ref⟩, sa, exC, tyC, kC⟩, sup, subV, mro, iC, tI, no, ⟨ga, gg, exC, hd⟩, ⟨ga, gg, exC, hd, hcl, hn, ht, hm⟩⟩

/-! ### an own exception's __init__, by what it keeps -/
def spE (C : Addr) (ok : List V → Prop) (fs : List V → List (Str × V)) : Sp := fun vs H Q _ => ∃ (a : Addr) (ws : List V), vs = .ref a :: ws ∧ ok ws ∧ H a = some (exo a C none) ∧
  ∀ (dx : Addr) (H' : Hp), H dx = none → dx ≠ a → H' a = some (exo a C (some dx)) → H' dx = some (exd dx (fs ws)) → (∀ b, b ≠ a → b ≠ dx → H' b = H b) → Q .non H'
theorem mk_spE {C : Addr} {ok : List V → Prop} {fs : List V → List (Str × V)} {vs : List V} {H1 : Hp} {Q : XK} (hl : vs.length ≤ 1000) (ho : ok vs) (hq : ∀ d, H1 d = none → Q (.ref C) (some d) (upd H1 d (.xd (fs vs)))) :
    vs.length ≤ 1000 ∧ ∀ a, H1 a = none → spE C ok fs (.ref a :: (vs ++ [])) (upd H1 a (exo a C none))
      (fun v H2 => v = .non ∧ ∃ (d : Addr) (fs : List (Str × V)), H2 a = some (exo a C (some d)) ∧ H2 d = some (exd d fs) ∧ H1 d = none ∧ Q (.ref C) (some d) (upd (del H2 a) d (.xd fs))) (fun _ _ _ => False) := by
  refine ⟨hl, fun a na => ⟨a, vs, by rw [List.append_nil], ho, upd_same, fun dx H' n ne e1 e2 hh => ⟨rfl, dx, fs vs, e1, e2, ?_, ?_⟩⟩⟩
  · rw [upd_ne ne] at n
    exact n
  · have nd : H1 dx = none := by rw [upd_ne ne] at n; exact n
    have e : upd (del H' a) dx (.xd (fs vs)) = upd H1 dx (.xd (fs vs)) := by
      funext b
      by_cases hb : b = dx
      · rw [hb, upd_same, upd_same]
      · rw [upd_ne hb, upd_ne hb]
        by_cases ha : b = a
        · rw [ha, del_same, na]
        · rw [del_ne ha, hh b ha hb, upd_ne ha]
    rw [e]
    exact hq dx nd
/-- the class, its __init__, ready for a raise -/
structure CalE (P : Program) (w : World) (K : PySem.W.Frag) (mg : Str → Option Value) (base : Heap) (k : Nat) (x : Str) (C f : Addr) (fd : FuncData) (ps : List Str) (ok : List V → Prop) (fs : List V → List (Str × V)) (fields : List Str) : Prop where
  G : FnOk P w K mg base CX0 k f fd ps (spE C ok fs)
  b : Binds K fd ps []
  X : ExK K C f fields
  m : mg x = some (.ref C)
/-- one store, the dict being new -/
theorem ost1 {a C : Addr} {H : Hp} {f : Str} {y : V} {Q : Hp → Prop} (ea : H a = some (exo a C none)) (q : ∀ dx H', H dx = none → dx ≠ a → H' a = some (exo a C (some dx)) → H' dx = some (exd dx [(f, y)]) → (∀ b, b ≠ a → b ≠ dx → H' b = H b) → Q H') :
    ∀ dx, H dx = none → dx ≠ a → Q (upd (upd H dx (exd dx [(f, y)])) a (exo a C (some dx))) := fun dx n ne =>
  q dx _ n ne upd_same (by rw [upd_ne ne, upd_same]) fun b h1 h2 => by rw [upd_ne h1, upd_ne h2]
end El

set_option Elab.async false
set_option linter.all false
set_option maxRecDepth 100000
/-! Own words: a text times an int, the text of an int. -/
namespace El
open PySem PySem.Spec PyProof.Rows L2
def repS (z : Str) (k : Int) : Str := if k < 1 then Str.empty else if (k == 1 || z.length == 0) = true then z else ⟨(List.replicate k.toNat z.cps).foldl (· ++ ·) #[]⟩
theorem foldl_cps : ∀ (n : Nat) (a b : Array Nat), ((List.replicate n b).foldl (· ++ ·) a).toList = a.toList ++ (List.replicate n b.toList).flatten
  | 0, a, b => by simp
  | n + 1, a, b => by
    rw [List.replicate_succ, List.foldl_cons, foldl_cps n, Array.toList_append, List.replicate_succ, List.flatten_cons, List.append_assoc]
theorem repS_cps (z : Str) (k : Int) : (repS z k).cps.toList = (List.replicate k.toNat z.cps.toList).flatten := by
  unfold repS
  split
  · rename_i h
    rw [show k.toNat = 0 by omega]
    rfl
  · split
    · rename_i h1 h
      rw [Bool.or_eq_true, beq_iff_eq, beq_iff_eq] at h
      rcases h with h | h
      · subst h
        simp
      · have : z.cps.toList = [] := List.eq_nil_of_length_eq_zero (by rw [Array.length_toList]; exact h)
        rw [this]
        simp
    · rw [foldl_cps]
      rfl
theorem repS1 {c : Nat} {k : Int} : (repS ⟨#[c]⟩ k).cps.toList = List.replicate k.toNat c := by
  rw [repS_cps]
  simp
theorem op_mulS {X : Cx} : OpR X (binaryOp .Mult) (fun x y H Q => ∃ (z : Str) (k : Int), x = .str z ∧ y = .int k ∧ k ≤ 1000 ∧ -1000 ≤ k ∧ z.length ≤ 1000 ∧ Q (.str (repS z k)) H) := by
  intro pins s σ H x y v u Q I rx ry h
  obtain ⟨z, k, rfl, rfl, h1, h2, h3, q⟩ := h
  obtain ⟨t, rfl⟩ := rx
  obtain ⟨t', rfl⟩ := ry
  have e : (2 : Int) ^ 63 = 9223372036854775808 := by decide
  refine PySem.P.mul_str ?_ (fun n1 n2 => ?_) (fun n1 n2 => ?_) ?_
  · rw [e, decide_eq_false (by omega), decide_eq_false (by omega)]
    rfl
  · rw [e]
    have : ((9223372036854775808 : Int) - 1) / 1000 ≤ (9223372036854775808 - 1) / k := by
      refine Int.le_ediv_of_mul_le (by omega) ?_
      have : (9223372036854775808 - 1) / 1000 * k ≤ (9223372036854775808 - 1) / 1000 * 1000 := Int.mul_le_mul_of_nonneg_left h1 (by decide)
      refine Int.le_trans this (by decide)
    have : (1000 : Int) ≤ (9223372036854775808 - 1) / 1000 := by decide
    omega
  · have : z.length * k.toNat ≤ 1000 * 1000 := Nat.mul_le_mul h3 (by omega)
    show decide _ = false
    refine decide_eq_false ?_
    rw [sizeLine_eq]
    omega
  · unfold repS at q
    split
    · rename_i c
      rw [if_pos c] at q
      exact ⟨by decide, .str _, H, I.tok _, ⟨_, rfl⟩, q⟩
    · rename_i c
      rw [if_neg c] at q
      split
      · rename_i c2
        rw [if_pos c2] at q
        exact ⟨.str _, H, I, ⟨_, rfl⟩, q⟩
      · rename_i c2
        rw [if_neg c2] at q
        refine ⟨?_, .str _, H, I.tok _, ⟨_, rfl⟩, q⟩
        have e2 := foldl_cps k.toNat #[] z.cps
        have e3 : ((List.replicate k.toNat z.cps).foldl (· ++ ·) #[]).size = k.toNat * z.length := by
          rw [← Array.length_toList, e2, List.length_append]
          simp
          rfl
        show ((List.replicate k.toNat z.cps).foldl (· ++ ·) #[]).size ≤ sizeLine
        rw [e3, sizeLine_eq]
        have : k.toNat * z.length ≤ 1000 * 1000 := Nat.mul_le_mul (by omega) h3
        omega
/-- times, of texts too -/
def mulSM : R2 := fun x y H Q => match x, y with
  | .str z, .int k => k ≤ 1000 ∧ -1000 ≤ k ∧ z.length ≤ 1000 ∧ Q (.str (repS z k)) H
  | _, _ => mulM x y H Q
theorem op_mulSM {X : Cx} : OpR X (binaryOp .Mult) mulSM := opwk (OpR.or op_mulS op_mulM) fun x y H Q q => by
  unfold mulSM at q
  split at q
  · exact .inl ⟨_, _, rfl, rfl, q⟩
  · exact .inr q
/-- the signs of a number's text -/
theorem int_digits {i : Int} (h : 0 ≤ i) : ∀ c ∈ ((toString i : String) : Str).cps.toList, 48 ≤ c ∧ c ≤ 57 := by
  intro c hm
  by_cases hk : c ≠ 45 ∧ (c < 48 ∨ 57 < c)
  · exact absurd hm (int_text_free' c hk i)
  · by_cases h45 : c = 45
    · exfalso
      subst h45
      obtain ⟨n, rfl⟩ := Int.eq_ofNat_of_zero_le h
      rw [signs_ofString] at hm
      obtain ⟨ch, hc, e⟩ := List.mem_map.mp hm
      have hd : ch.isDigit = true := by
        have : ch ∈ (Nat.repr n).toList := hc
        exact Nat.isDigit_of_mem_toDigits (b := 10) (n := n) (by decide) (by decide) (by simpa [Nat.repr] using this)
      have := digit_range hd
      omega
    · omega
theorem int_text_ne (i : Int) : ((toString i : String) : Str).cps.toList ≠ [] := by
  rw [signs_ofString]
  intro h
  have h := List.map_eq_nil_iff.mp h
  have nn : ∀ n : Nat, (Nat.repr n).toList ≠ [] := fun n e => by
    have : Nat.toDigits 10 n = [] := by simpa [Nat.repr] using e
    exact Nat.toDigits_ne_nil this
  cases i with
  | ofNat n => exact nn n h
  | negSucc n =>
    have : ("-" ++ Nat.repr (n + 1)).toList = [] := h
    simp at this
end El

set_option Elab.async false
set_option linter.all false
set_option maxRecDepth 100000
set_option maxHeartbeats 4000000
/-! Own words: operators of own classes, static methods. -/
namespace El
open PySem PySem.Spec PyProof.Rows L2
theorem cmpBack_of {X : Cx} {pins : List (Addr × Obj)} {σ : L2.St} {Q : VK} {u : Value} {s' : Shared} (h : EP X pins σ Q u s') : PySem.W.CmpBack (EP X pins σ Q) u s' := by
  obtain ⟨v, H', I, r, q⟩ := id h
  cases v with
  | non => cases (show u = Value.none from r); exact h
  | bl b => cases (show u = Value.bool b from r); exact h
  | int i => obtain ⟨t, e⟩ := (show ∃ t, u = Value.int i t from r); subst e; exact h
  | str i => obtain ⟨t, e⟩ := (show ∃ t, u = Value.str i t from r); subst e; exact h
  | byt i => obtain ⟨t, e⟩ := (show ∃ t, u = Value.bytes i t from r); subst e; exact h
  | flt i => obtain ⟨t, e⟩ := (show ∃ t, u = Value.float i t from r); subst e; exact h
  | ref a => cases (show u = Value.ref a from r); exact h
  | ty n => cases (show u = Value.type n from r); exact h
/-- an own class's method for an operator -/
structure OpC (K : PySem.W.Frag) (C f : Addr) (op : Operator) : Prop where
  sf : PySem.W.selfFirst K C = true
  at_ : PySem.W.findIn K (.ref C) (PySem.dunder op.info.2) = some (some (.ref f))
  fn : PySem.W.isFn K (.ref f) = true
/-- .. with a value of the built-in type T on the right -/
structure OpT (K : PySem.W.Frag) (C f : Addr) (op : Operator) (T : String) : Prop where
  c : OpC K C f op
  hr : ∃ rc, PySem.W.findIn K (.ref C) (PySem.dunderR op.info.2) = some rc ∧ (rc = none ∨ ∃ g : Addr, rc = some (.ref g))
  h1 : ∃ fo, PySem.W.findIn K (.type T) (PySem.dunder op.info.2) = some fo
  h2 : ∃ ro, PySem.W.findIn K (.type T) (PySem.dunderR op.info.2) = some ro
  sub : PySem.W.subIn K (.type T) (.ref C) = some false
structure InvC (K : PySem.W.Frag) (C f : Addr) : Prop where
  at_ : PySem.W.findIn K (.ref C) "__invert__" = some (some (.ref f))
  fn : PySem.W.isFn K (.ref f) = true
section
variable {X : Cx} {CX : CXT} {k : Nat} {C f : Addr} {fd : FuncData} {ps : List Str} {sp : Sp} {E : XK} {op : Operator}
/-- a op b, both of the class at C -/
def rOwn (C : Addr) (sp : Sp) (E : XK) : R2 := fun x y H Q => ∃ a b dx fs dy gs, x = .ref a ∧ y = .ref b ∧ H a = some (.ins C dx fs) ∧ H b = some (.ins C dy gs) ∧ sp [.ref a, .ref b] H Q E
theorem op_own (c : OpC X.K C f op) (F : FnOk X.prog X.w X.K X.mg X.base CX k f fd ps sp) (hr : Room k X.A) (hb : Binds X.K fd ps []) (hx : Passes CX X E) : OpR X (binaryOp op) (rOwn C sp E) := by
  intro pins s σ H x y v u Q I rx ry h
  obtain ⟨a, b, dx, fs, dy, gs, rfl, rfl, ea, eb, q⟩ := h
  obtain rfl : v = Value.ref a := rx
  obtain rfl : u = Value.ref b := ry
  obtain ⟨m, fr⟩ := I.fr
  obtain ⟨mA, O, _⟩ := ins_get I.hok ea
  obtain ⟨od, J, _⟩ := O.look
  obtain ⟨mB, O2, _⟩ := ins_get I.hok eb
  obtain ⟨od2, J2, _⟩ := O2.look
  refine PySem.W.binop_K fr I.ok.mod.kin J J2.type c.sf c.at_ c.fn ?_
  refine wpAny_mono (run_fn (us := [.ref a, .ref b]) (vs := [.ref a, .ref b]) (ds := []) (dvs := []) F hr hb .nil hx I (.cons rfl (.cons rfl .nil)) q) (fun u' s' h' => cmpBack_of h') fun _ _ z => z
/-- a op n, n an int -/
def rOwnI (C : Addr) (sp : Sp) (E : XK) : R2 := fun x y H Q => ∃ a dx fs i, x = .ref a ∧ y = .int i ∧ H a = some (.ins C dx fs) ∧ sp [.ref a, .int i] H Q E
theorem op_ownI (c : OpT X.K C f op "int") (F : FnOk X.prog X.w X.K X.mg X.base CX k f fd ps sp) (hr : Room k X.A) (hb : Binds X.K fd ps []) (hx : Passes CX X E) : OpR X (binaryOp op) (rOwnI C sp E) := by
  intro pins s σ H x y v u Q I rx ry h
  obtain ⟨a, dx, fs, i, rfl, rfl, ea, q⟩ := h
  obtain rfl : v = Value.ref a := rx
  obtain ⟨t, rfl⟩ := ry
  obtain ⟨m, fr⟩ := I.fr
  obtain ⟨mA, O, _⟩ := ins_get I.hok ea
  obtain ⟨od, J, _⟩ := O.look
  obtain ⟨rc, hr1, hr2⟩ := c.hr
  obtain ⟨fo, h1⟩ := c.h1
  obtain ⟨ro, h2⟩ := c.h2
  refine PySem.W.ksp_binT fr I.ok.mod.kin J (T := "int") rfl c.c.sf c.c.at_ c.c.fn hr1 hr2 h1 h2 c.sub ?_
  refine wpAny_mono (run_fn (us := [.ref a, .int i t]) (vs := [.ref a, .int i]) (ds := []) (dvs := []) F hr hb .nil hx I (.cons rfl (.cons ⟨t, rfl⟩ .nil)) q) (fun u' s' h' => cmpBack_of h') fun _ _ z => z
/-- ~a -/
theorem un_own (c : InvC X.K C f) (F : FnOk X.prog X.w X.K X.mg X.base CX k f fd ps sp) (hr : Room k X.A) (hb : Binds X.K fd ps []) (hx : Passes CX X E) : UnR X (unaryOp .Invert) (fun x H Q => ∃ a dx fs, x = .ref a ∧ H a = some (.ins C dx fs) ∧ sp [.ref a] H Q E) := by
  intro pins s σ H x v Q I rx h
  obtain ⟨a, dx, fs, rfl, ea, q⟩ := h
  obtain rfl : v = Value.ref a := rx
  obtain ⟨m, fr⟩ := I.fr
  obtain ⟨mA, O, _⟩ := ins_get I.hok ea
  obtain ⟨od, J, _⟩ := O.look
  exact PySem.W.ksp_inv fr I.ok.mod.kin J c.at_ c.fn (run_fn (us := [.ref a]) (vs := [.ref a]) (ds := []) (dvs := []) F hr hb .nil hx I (.cons rfl .nil) q)
end

section
variable {X : Cx} {CX : CXT} {k : Nat} {C f : Addr} {fd : FuncData} {ps : List Str} {sp : Sp} {E : L2.St → XK} {op : Operator} {a b : Expr} {ta tb : TE} {pos : Pos}
/-- .. what it lets out being taken where it stands -/
def tOwnS (C : Addr) (sp : Sp) (E : L2.St → XK) (ta tb : TE) : TE := fun σ H Q => ta σ H fun x H1 => tb σ H1 fun y H2 => ∃ a b dx fs dy gs, x = .ref a ∧ y = .ref b ∧ H2 a = some (.ins C dx fs) ∧ H2 b = some (.ins C dy gs) ∧ sp [.ref a, .ref b] H2 Q (E σ)
theorem pe_bopS (c : OpC X.K C f op) (F : FnOk X.prog X.w X.K X.mg X.base CX k f fd ps sp) (hr : Room k X.A) (hb : Binds X.K fd ps []) (hx : ∀ σ, PassesAt CX X σ (E σ)) (ha : PE X a ta) (hb2 : PE X b tb) : PE X (.BinOp a op b pos) (tOwnS C sp E ta tb) := by
  refine ⟨fun pins s σ H Q I h => ?_⟩
  refine wpAny_BinOp (thn (ha.run pins s σ H _ I h) fun v s1 ⟨x, H1, I1, rx, q1⟩ => thn (hb2.run pins s1 σ H1 _ I1 q1) fun u s2 ⟨y, H2, I2, ry, a, b, dx, fs, dy, gs, ex, ey, ea, eb, q⟩ => ?_)
  subst ex ey
  obtain rfl : v = Value.ref a := rx
  obtain rfl : u = Value.ref b := ry
  obtain ⟨m, fr⟩ := I2.fr
  obtain ⟨mA, O, _⟩ := ins_get I2.hok ea
  obtain ⟨od, J, _⟩ := O.look
  obtain ⟨mB, O2, _⟩ := ins_get I2.hok eb
  obtain ⟨od2, J2, _⟩ := O2.look
  refine PySem.W.binop_K fr I2.ok.mod.kin J J2.type c.sf c.at_ c.fn ?_
  refine wpAny_mono (run_fnS (us := [.ref a, .ref b]) (vs := [.ref a, .ref b]) F hr hb (hx σ) I2 (.cons rfl (.cons rfl .nil)) q) (fun u' s' h' => cmpBack_of h') fun _ _ z => z
end

/-! ### static methods, by the class's name -/
structure SMet (K : PySem.W.Frag) (C : Addr) (mc : Value) (m : Str) (p g : Addr) : Prop where
  at_ : PySem.W.findCls K (.ref C) mc m = some (.get (.builtin "staticmethod.__get__") (.ref p) .none (.ref C))
  rc : ∃ rest, PySem.W.recIn K p "staticmethod" = some (.ref g :: rest)
  kp : PySem.W.keepIn K (.ref g) = true
section
variable {X : Cx} {CX : CXT} {k : Nat} {C p g : Addr} {mc : Value} {fd : FuncData} {ps : List Str} {sp : Sp} {E : XK} {o e : Expr} {es : List Expr} {m : Str} {pos apos : Pos} {ta : TE} {t : TA} {pl : Sem Bool}
def tSM (C : Addr) (sp : Sp) (E : XK) (ta : TE) (t : TA) : TE := fun σ H Q => ta σ H fun x H1 => x = .ref C ∧ t σ H1 fun vs H2 => sp vs H2 Q E
theorem getsm_ok {pins : List (Addr × Obj)} {σ : L2.St} {H : Hp} {s : Shared} {A : Around} {E : Value → Shared → Prop} {Q : Value × List Value → Shared → Prop} (I : Inv X pins σ H s) (r : ClX.CRead X.K C mc) (c : SMet X.K C mc m p g)
    (h : ∀ s', Inv X pins σ H s' → Q (.ref g, []) s') : wpAny (model X.prog X.w) A (getMethod (.ref C) m pl) Q E s := by
  obtain ⟨rest, hp⟩ := c.rc
  refine PySem.W.method_cls I.kIn r.ga ?_
  refine PySem.W.cls_bind I.kIn r.rd c.at_ ?_
  exact wpAny_call (PySem.W.sm_get (s := { s with toks := s.toks + 1 }) I.kIn hp (PySem.W.handed_on rfl (h _ (I.tok _))))
theorem pe_smeth (he : PE X o ta) (r : ClX.CRead X.K C mc) (c : SMet X.K C mc m p g) (F : FnOk X.prog X.w X.K X.mg X.base CX k g fd ps sp) (hr : Room k X.A) (hb : Binds X.K fd ps []) (hx : Passes CX X E) (ha : PA X (e :: es) t)
    (hst : starEach (e :: es) X.env = (false, eval e X.env) :: starEach es X.env := by rfl) (hpl : (backTo pos (starEach es X.env)).any (·.1) = false := by rfl)
    (ht : eval (.Call (.Attribute o m apos) (e :: es) [] pos) X.env = (do
      let ov ← eval o X.env
      standAt apos.atName
      let (f, first) ← holding [ov] (getMethod ov m pl)
      callWith pos f first (backTo pos (starEach (e :: es) X.env)) (backToKw pos (keywordEach [] X.env))) := by rfl) :
    PE X (.Call (.Attribute o m apos) (e :: es) [] pos) (tSM C sp E ta t) := by
  refine ⟨fun pins s σ H Q I h => ?_⟩
  refine PySem.W.methodCall_KW (pl := pl) (thn (he.run pins s σ H _ I h) fun u s1 ⟨x, H1, I1, rx, ex, q⟩ => ?_) ht
  subst ex
  obtain rfl : u = Value.ref C := rx
  refine getsm_ok I1 r c fun s2 I2 => ?_
  refine PySem.W.callWith_K (h₀ := X.base) I2.ok.mod.kin c.kp (thn (ha.run pos pins s2 σ H1 _ I2 q) fun us s3 ⟨vs, H2, I3, rv, q2⟩ => ⟨I3.kIn, ?_⟩) hst hpl
  have hl : sp (vs ++ []) H2 Q E := by rw [List.append_nil]; exact q2
  exact run_fn (ds := []) (dvs := []) F hr hb .nil hx I3 rv hl
theorem pe_smeth0 (he : PE X o ta) (r : ClX.CRead X.K C mc) (c : SMet X.K C mc m p g) (F : FnOk X.prog X.w X.K X.mg X.base CX k g fd ps sp) (hr : Room k X.A) (hb : Binds X.K fd ps []) (hx : Passes CX X E)
    (ht : eval (.Call (.Attribute o m apos) [] [] pos) X.env = (do
      let ov ← eval o X.env
      standAt apos.atName
      let (f, first) ← holding [ov] (getMethod ov m pl)
      callWith pos f first (backTo pos (starEach [] X.env)) (backToKw pos (keywordEach [] X.env))) := by rfl) :
    PE X (.Call (.Attribute o m apos) [] [] pos) (tSM C sp E ta tNil) := by
  refine ⟨fun pins s σ H Q I h => ?_⟩
  refine PySem.W.methodCall_KW (pl := pl) (thn (he.run pins s σ H _ I h) fun u s1 ⟨x, H1, I1, rx, ex, q⟩ => ?_) ht
  subst ex
  obtain rfl : u = Value.ref C := rx
  refine getsm_ok I1 r c fun s2 I2 => ?_
  exact PySem.W.callWith_K0 I2.kIn c.kp (run_fn (us := []) (vs := []) (ds := []) (dvs := []) F hr hb .nil hx I2 .nil q)
end

/-! ### defs of own classes, ready to be called -/
structure CalB (P : Program) (w : World) (K : PySem.W.Frag) (mg : Str → Option Value) (base : Heap) (CX : CXT) (k : Nat) (f : Addr) (fd : FuncData) (ps : List Str) (sp : Sp) : Prop where
  G : FnOk P w K mg base CX k f fd ps sp
  b : Binds K fd ps []
structure CalI (P : Program) (w : World) (K : PySem.W.Frag) (mg : Str → Option Value) (base : Heap) (CX : CXT) (k : Nat) (x : Str) (C f : Addr) (fd : FuncData) (ps : List Str) (sp : Sp) : Prop extends CalB P w K mg base CX k f fd ps sp where
  mkc : Mk K C f
  m : mg x = some (.ref C)
structure CalS (P : Program) (w : World) (K : PySem.W.Frag) (mg : Str → Option Value) (base : Heap) (CX : CXT) (k : Nat) (C p : Addr) (m : Str) (f : Addr) (fd : FuncData) (ps : List Str) (sp : Sp) : Prop extends CalB P w K mg base CX k f fd ps sp where
  rd : ClX.CRead K C (.type "type")
  sm : SMet K C (.type "type") m p f
structure CalP (P : Program) (w : World) (K : PySem.W.Frag) (mg : Str → Option Value) (base : Heap) (CX : CXT) (k : Nat) (C p : Addr) (m : Str) (f : Addr) (fd : FuncData) (ps : List Str) (sp : Sp) : Prop extends CalB P w K mg base CX k f fd ps sp where
  cl : Cls K C
  pr : PropOf K C m p f
structure CalO (P : Program) (w : World) (K : PySem.W.Frag) (mg : Str → Option Value) (base : Heap) (CX : CXT) (k : Nat) (C : Addr) (op : Operator) (f : Addr) (fd : FuncData) (ps : List Str) (sp : Sp) : Prop extends CalB P w K mg base CX k f fd ps sp where
  op : OpC K C f op
structure CalC (P : Program) (w : World) (K : PySem.W.Frag) (mg : Str → Option Value) (base : Heap) (CX : CXT) (k : Nat) (C f : Addr) (fd : FuncData) (ps : List Str) (sp : Sp) : Prop extends CalB P w K mg base CX k f fd ps sp where
  co : StX.CallO K C f

/-! ### the written part named (in comprehensions) -/
section
variable {X : Cx} {e : Expr} {es : List Expr} {f : Str} {pos p : Pos} {ta : TE} {t : TA}
theorem e_f (K : PySem.W.Frag) (he : PE X e ta) (hb : attributeBase e f X.env (eval e X.env) = eval e X.env := by rfl) (h : X.K = K := by rfl) : PE X (.Attribute e f pos) (tFld K ta f) := h ▸ pe_fld he hb
theorem e_cv (K : PySem.W.Frag) (he : PE X e ta) (hb : attributeBase e f X.env (eval e X.env) = eval e X.env := by rfl) (h : X.K = K := by rfl) : PE X (.Attribute e f pos) (ClX.tCVal K ta f) := h ▸ ClX.pe_cval he hb
end

/-! ### len of an own class -/
structure LenC (K : PySem.W.Frag) (C f : Addr) : Prop where
  at_ : PySem.W.findIn K (.ref C) "__len__" = some (some (.ref f))
  fn : PySem.W.isFn K (.ref f) = true
theorem call_lenO {X : Cx} {k : Nat} {C f : Addr} {fd : FuncData} {ps : List Str} {sp : Sp} (c : LenC X.K C f) (F : FnOk X.prog X.w X.K X.mg X.base CX0 k f fd ps sp) (hr : Room (k + 1) X.A) (hb : Binds X.K fd ps []) :
    CallR X (.builtin "len") (fun xs H Q => ∃ a dx fs, xs = [.ref a] ∧ H a = some (.ins C dx fs) ∧ sp [.ref a] H (fun v H' => ∃ n : Int, v = .int n ∧ 0 ≤ n ∧ n < 2 ^ 62 ∧ Q (.int n) H') E0) := by
  intro pins s σ H xs us Q I r h
  obtain ⟨a, dx, fs, rfl, ea, q⟩ := h
  obtain rfl := Vals.ref1 r
  obtain ⟨m, fr⟩ := I.fr
  obtain ⟨mA, O, _⟩ := ins_get I.hok ea
  obtain ⟨od, J, _⟩ := O.look
  refine PySem.W.len_K fr I.ok.mod.kin J c.at_ c.fn ?_
  have hl : ([Value.ref a] ++ []).length = ps.length := (F.len _ _ _ _ q)
  have b := hb s [.ref a] I.kIn hl
  rw [List.append_nil] at b
  refine wpAny_call (codeAny_mono (F.run X.A.in1 X.stack s H ⟨[.ref a], []⟩ [.ref a] [.ref a] _ E0 hr.in1 I.env0.in1 b (.cons rfl .nil) q) fun r s' hq' => ?_)
  cases r with
  | error e => exact False.elim hq'
  | ok fl =>
    cases fl with
    | ret u =>
      obtain ⟨v, H', I3, rv, n, rfl, h0, h1, q3⟩ := I.after hq'
      obtain ⟨t, rfl⟩ := rv
      exact ⟨⟨h0, Int.lt_trans h1 (by decide)⟩, ⟨.int n, H', I3.tok _, ⟨_, rfl⟩, q3⟩⟩
    | next => exact False.elim hq'
    | brk => exact False.elim hq'
    | cont => exact False.elim hq'
structure CalL (P : Program) (w : World) (K : PySem.W.Frag) (mg : Str → Option Value) (base : Heap) (CX : CXT) (k : Nat) (C f : Addr) (fd : FuncData) (ps : List Str) (sp : Sp) : Prop extends CalB P w K mg base CX k f fd ps sp where
  le : LenC K C f
end El

set_option Elab.async false
set_option linter.all false
set_option maxRecDepth 100000
set_option maxHeartbeats 4000000
/-! Own words: static methods and callable objects inside a try; exception classes that inherit their __init__. -/
namespace El
open PySem PySem.Spec PyProof.Rows L2
section
variable {X : Cx} {CX : CXT} {k : Nat} {C p g f : Addr} {mc : Value} {fd : FuncData} {ps : List Str} {sp : Sp} {E : L2.St → XK} {o e fe : Expr} {es : List Expr} {m : Str} {pos apos : Pos} {ta tf : TE} {t : TA} {pl : Sem Bool}
theorem code_fnS {pins : List (Addr × Obj)} {σ : L2.St} {H : Hp} {s : Shared} {Q : VK} {us : List Value} {vs : List V} (F : FnOk X.prog X.w X.K X.mg X.base CX k f fd ps sp) (hr : Room k X.A) (hb : Binds X.K fd ps []) (hx : PassesAt CX X σ (E σ))
    (I : Inv X pins σ H s) (r : Vals vs us) (h : sp vs H Q (E σ)) : codeAny (model X.prog X.w) X.A (.call (.ref f) ⟨us, []⟩) (fun r s' => match r with | .ok (.ret u) => EP X pins σ Q u s' | .error e => X.xe e s' | _ => False) s := by
  have hl : us.length = ps.length := by rw [← r.length]; exact F.len _ _ _ _ h
  have b := hb s us I.kIn (by rw [List.append_nil]; exact hl)
  rw [List.append_nil] at b
  refine codeAny_mono (F.run X.A X.stack s H ⟨us, []⟩ us vs Q (E σ) hr I.env0 b r h) fun r s' hq => ?_
  cases r with
  | error e => exact hx pins H s e s' I hq
  | ok fl =>
    cases fl with
    | ret u => exact I.after hq
    | next => exact False.elim hq
    | brk => exact False.elim hq
    | cont => exact False.elim hq
/-- C.m(e, ..), what it lets out being taken where it stands -/
def tSMS (C : Addr) (sp : Sp) (E : L2.St → XK) (ta : TE) (t : TA) : TE := fun σ H Q => ta σ H fun x H1 => x = .ref C ∧ t σ H1 fun vs H2 => sp vs H2 Q (E σ)
theorem pe_smethS (he : PE X o ta) (r : ClX.CRead X.K C mc) (c : SMet X.K C mc m p g) (F : FnOk X.prog X.w X.K X.mg X.base CX k g fd ps sp) (hr : Room k X.A) (hb : Binds X.K fd ps []) (hx : ∀ σ, PassesAt CX X σ (E σ)) (ha : PA X (e :: es) t)
    (hst : starEach (e :: es) X.env = (false, eval e X.env) :: starEach es X.env := by rfl) (hpl : (backTo pos (starEach es X.env)).any (·.1) = false := by rfl)
    (ht : eval (.Call (.Attribute o m apos) (e :: es) [] pos) X.env = (do
      let ov ← eval o X.env
      standAt apos.atName
      let (f, first) ← holding [ov] (getMethod ov m pl)
      callWith pos f first (backTo pos (starEach (e :: es) X.env)) (backToKw pos (keywordEach [] X.env))) := by rfl) :
    PE X (.Call (.Attribute o m apos) (e :: es) [] pos) (tSMS C sp E ta t) := by
  refine ⟨fun pins s σ H Q I h => ?_⟩
  refine PySem.W.methodCall_KW (pl := pl) (thn (he.run pins s σ H _ I h) fun u s1 ⟨x, H1, I1, rx, ex, q⟩ => ?_) ht
  subst ex
  obtain rfl : u = Value.ref C := rx
  refine getsm_ok I1 r c fun s2 I2 => ?_
  refine PySem.W.callWith_K (h₀ := X.base) I2.ok.mod.kin c.kp (thn (ha.run pos pins s2 σ H1 _ I2 q) fun us s3 ⟨vs, H2, I3, rv, q2⟩ => ⟨I3.kIn, ?_⟩) hst hpl
  exact run_fnS F hr hb (hx σ) I3 rv q2
/-- f(e, ..), f an instance of C, what it lets out being taken where it stands -/
def tCallOS (C : Addr) (sp : Sp) (E : L2.St → XK) (tf : TE) (t : TA) : TE := fun σ H Q => tf σ H fun y H1 => ∃ a, y = V.ref a ∧ t σ H1 fun vs H2 => (∃ dx fs, H2 a = some (.ins C dx fs)) ∧ sp (V.ref a :: vs) H2 Q (E σ)
theorem pe_callOS (hf : PE X fe tf) (c : StX.CallO X.K C g) (F : FnOk X.prog X.w X.K X.mg X.base CX k g fd ps sp) (hb : Binds X.K fd ps []) (hr : Room k X.A) (hx : ∀ σ, PassesAt CX X σ (E σ)) (ha : PA X (e :: es) t)
    (ht : eval (.Call fe (e :: es) [] pos) X.env = (do callWith pos (← eval fe X.env) [] (backTo pos (starEach (e :: es) X.env)) (backToKw pos (keywordEach [] X.env))) := by rfl)
    (he : starEach (e :: es) X.env = (false, eval e X.env) :: starEach es X.env := by rfl) (hpl : (backTo pos (starEach es X.env)).any (·.1) = false := by rfl) : PE X (.Call fe (e :: es) [] pos) (tCallOS C sp E tf t) := by
  refine ⟨fun pins s σ H Q I h => ?_⟩
  refine Call_ (thn (hf.run pins s σ H _ I h) fun u s1 ⟨y, H1, I1, ry, a, ey, q⟩ => ?_) ht
  subst ey
  obtain rfl : u = Value.ref a := ry
  refine StX.callO_with (thn (ha.run pos pins s1 σ H1 _ I1 q) fun us s2 ⟨vs, H2, I2, r, hi, q2⟩ => ?_) he hpl
  obtain ⟨ox, od, J, hd⟩ := StX.insC_at I2 (.inr hi)
  refine ⟨⟨C, ox, od, J, hd⟩, ?_⟩
  refine wpAny_call (PySem.W.kco_code I2.kIn J hd c.at_ c.fn c.fi (codeAny_mono (code_fnS (us := .ref a :: us) (vs := .ref a :: vs) F hr hb (hx σ) I2 (.cons rfl r) q2) fun r s' h => ?_))
  cases r with
  | error e => exact h
  | ok fl =>
    cases fl with
    | ret u => exact h
    | next => exact False.elim h
    | brk => exact False.elim h
    | cont => exact False.elim h
end

/-! ### an exception class C whose __init__ is that of D above it -/
open NdefX
structure ExI (K : PySem.W.Frag) (C D fI : Addr) (fields : List Str) : Prop where
  oex : OexC K C
  sup : PySem.W.ks_superIn K C D "__init__" = some (some (.builtin "ValueError.__init__"))
  subV : PySem.W.subIn K (.ref C) (.type "ValueError") = some true
  mro : PySem.W.mroIn K C (.ref D) = some true
  iC : PySem.W.findIn K (.ref C) "__init__" = some (some (.ref fI))
  tI : PySem.W.typeIn K (.ref fI) = some (.type "function")
  no : ∀ f ∈ fields, PySem.W.findIn K (.ref C) f = some none
  xf : XfC K C
  is : ExcC K C
theorem exi_mk {K : PySem.W.Frag} {C D fI N : Addr} {fields : List Str} {nm q : Str} {bs bm : List Value} {sn : List Str} {sub : List Value} {ab : Bool} {col : Option Bool} {dd : Option Addr} {k0 k1 k2 k3 k5 : Option Value}
    (cls : K.lookup C = some (excClassObj nm q C N bs bm true sn sub ab col dd k0 k1 k2 k3 k5 "ValueError.__new__")) (ref : PySem.HandSPX.refsVE bm = true)
    (sa : PySem.W.findIn K (.ref C) "__setattr__" = some (some (.builtin "object.__setattr__"))) (exC : PySem.W.subIn K (.ref C) (.type "BaseException") = some true) (tyC : PySem.W.typeIn K (.ref C) = some (.type "type")) (kC : PySem.W.keepIn K (.ref C) = true)
    (sup : PySem.W.ks_superIn K C D "__init__" = some (some (.builtin "ValueError.__init__"))) (subV : PySem.W.subIn K (.ref C) (.type "ValueError") = some true) (mro : PySem.W.mroIn K C (.ref D) = some true)
    (iC : PySem.W.findIn K (.ref C) "__init__" = some (some (.ref fI))) (tI : PySem.W.typeIn K (.ref fI) = some (.type "function")) (no : ∀ f ∈ fields, PySem.W.findIn K (.ref C) f = some none)
    (ga : PySem.W.findIn K (.ref C) "__getattribute__" = some (some (.builtin "BaseException.__getattribute__"))) (gg : PySem.W.findIn K (.ref C) "__getattr__" = some none) (hd : PySem.W.hasDictIn K C = true)
    (hcl : PySem.W.findIn K (.ref C) "__class__" = some (some (.builtin "object.__class__"))) (hn : PySem.W.specialIn K (.builtin "object.__class__") "__get__" = some (some (.builtin "getset_descriptor.__get__"))) (ht : PySem.W.takesIn K (.builtin "object.__class__") = some true) (hm : PySem.W.mroIn K C (.type "object") = some true) : ExI K C D fI fields :=
  ⟨⟨⟨nm, q, N, bs, bm, sn, sub, ab, col, dd, k0, k1, k2, k3, k5, cls, ref⟩, sa, exC, tyC, kC⟩, sup, subV, mro, iC, tI, no, ⟨ga, gg, exC, hd⟩, ⟨ga, gg, exC, hd, hcl, hn, ht, hm⟩⟩
structure CalEI (P : Program) (w : World) (K : PySem.W.Frag) (mg : Str → Option Value) (base : Heap) (k : Nat) (x : Str) (C f : Addr) (fd : FuncData) (ps : List Str) (ok : List V → Prop) (fs : List V → List (Str × V)) (fields : List Str) : Prop where
  G : FnOk P w K mg base CX0 k f fd ps (spE C ok fs)
  b : Binds K fd ps []
  X : ∃ D, ExI K C D f fields
  m : mg x = some (.ref C)
theorem CalEI.oex {P : Program} {w : World} {K : PySem.W.Frag} {mg : Str → Option Value} {base : Heap} {k : Nat} {x : Str} {C f : Addr} {fd : FuncData} {ps : List Str} {ok : List V → Prop} {fs : List V → List (Str × V)} {fields : List Str} (c : CalEI P w K mg base k x C f fd ps ok fs fields) : OexC K C := by obtain ⟨D, X⟩ := c.X; exact X.oex
theorem CalEI.iC {P : Program} {w : World} {K : PySem.W.Frag} {mg : Str → Option Value} {base : Heap} {k : Nat} {x : Str} {C f : Addr} {fd : FuncData} {ps : List Str} {ok : List V → Prop} {fs : List V → List (Str × V)} {fields : List Str} (c : CalEI P w K mg base k x C f fd ps ok fs fields) : PySem.W.findIn K (.ref C) "__init__" = some (some (.ref f)) := by obtain ⟨D, X⟩ := c.X; exact X.iC
theorem CalEI.tI {P : Program} {w : World} {K : PySem.W.Frag} {mg : Str → Option Value} {base : Heap} {k : Nat} {x : Str} {C f : Addr} {fd : FuncData} {ps : List Str} {ok : List V → Prop} {fs : List V → List (Str × V)} {fields : List Str} (c : CalEI P w K mg base k x C f fd ps ok fs fields) : PySem.W.typeIn K (.ref f) = some (.type "function") := by obtain ⟨D, X⟩ := c.X; exact X.tI
/-! ### characters whose repr is bounded -/
def Asc (z : Str) : Prop := ∀ c ∈ z.cps.toList, c < 16 ^ 8
theorem repr_le {z : Str} (h : Asc z) (hl : z.length ≤ 1000) : (reprText z).length ≤ 10002 := Nat.le_trans (PySem.StrLaws.reprText_len z h) (by omega)
end El

set_option Elab.async false
set_option linter.all false
set_option maxRecDepth 100000
/-! Own mathematics: a line as a list of codes, its tokens. -/
namespace El
abbrev LT : List Nat := [97, 98, 99, 100, 101, 102, 103, 104, 105, 106, 107, 108, 109, 110, 111, 112, 113, 114, 115, 116, 117, 118, 119, 120, 121, 122]
abbrev DG : List Nat := [48, 49, 50, 51, 52, 53, 54, 55, 56, 57]
abbrev SG : List (List Nat) := [[60], [60, 61], [61, 61], [33, 61], [62, 61], [62]]
abbrev MK : List (List Nat) := [[40], [41], [44], [59], [58]]
def isL (c : Nat) : Bool := decide (c ∈ LT)
def isD (c : Nat) : Bool := decide (c ∈ DG)
theorem isL_iff {c : Nat} : isL c = true ↔ 97 ≤ c ∧ c ≤ 122 := by
  unfold isL
  rw [decide_eq_true_iff]
  simp only [LT, List.mem_cons, List.not_mem_nil, or_false]
  omega
theorem isD_iff {c : Nat} : isD c = true ↔ 48 ≤ c ∧ c ≤ 57 := by
  unfold isD
  rw [decide_eq_true_iff]
  simp only [DG, List.mem_cons, List.not_mem_nil, or_false]
  omega
/-- a sign or a mark -/
def inSM (p : List Nat) : Bool := decide (p ∈ SG) || decide (p ∈ MK)
/-- how long the token is with which a rest begins; 0: none -/
def tokLen : List Nat → Nat
  | [] => 0
  | c :: r => if isL c then ((c :: r).takeWhile isL).length else if isD c then ((c :: r).takeWhile isD).length
    else if c = 45 then (if (r.takeWhile isD).length = 0 then 0 else 1 + (r.takeWhile isD).length)
    else if inSM ((c :: r).take 2) then ((c :: r).take 2).length else if inSM [c] then 1 else 0
theorem tokLen_cons (c : Nat) (r : List Nat) : tokLen (c :: r) = if isL c then ((c :: r).takeWhile isL).length else if isD c then ((c :: r).takeWhile isD).length
    else if c = 45 then (if (r.takeWhile isD).length = 0 then 0 else 1 + (r.takeWhile isD).length)
    else if inSM ((c :: r).take 2) then ((c :: r).take 2).length else if inSM [c] then 1 else 0 := rfl
theorem ite_le {c : Prop} [Decidable c] {a b n : Nat} (h1 : a ≤ n) (h2 : b ≤ n) : (if c then a else b) ≤ n := by split <;> assumption
theorem tokLen_le : ∀ r : List Nat, tokLen r ≤ r.length
  | [] => Nat.le_refl _
  | c :: r => by
    have h1 : ∀ (f : Nat → Bool) (l : List Nat), (l.takeWhile f).length ≤ l.length := fun f l => (List.takeWhile_sublist f).length_le
    have a := h1 isL (c :: r)
    have b := h1 isD (c :: r)
    have d := h1 isD r
    have e : ((c :: r).take 2).length ≤ (c :: r).length := by rw [List.length_take]; omega
    have hn : (c :: r).length = r.length + 1 := List.length_cons
    exact ite_le a (ite_le b (ite_le (ite_le (by omega) (by omega)) (ite_le e (ite_le (by omega) (by omega)))))
/-- the tokens of a rest that begins at a column, or the column of the first strange sign -/
def splitN : Nat → List Nat → Nat → Except Nat (List (List Nat × Nat))
  | 0, _, _ => .ok []
  | _ + 1, [], _ => .ok []
  | n + 1, c :: r, col => if 0 < tokLen (c :: r) then
      (match splitN n ((c :: r).drop (tokLen (c :: r))) (col + tokLen (c :: r)) with
        | .ok l => .ok (((c :: r).take (tokLen (c :: r)), col) :: l)
        | .error e => .error e)
    else if c = 32 then splitN n r (col + 1) else .error col
def splitL (r : List Nat) (col : Nat) : Except Nat (List (List Nat × Nat)) := splitN r.length r col
theorem splitN_more : ∀ (n m : Nat) (r : List Nat) (col : Nat), r.length ≤ n → n ≤ m → splitN m r col = splitN n r col
  | 0, 0, _, _, _, _ => rfl
  | 0, m + 1, [], _, _, _ => rfl
  | 0, m + 1, c :: r, _, h, _ => absurd h (by simp)
  | n + 1, 0, _, _, _, h => absurd h (by omega)
  | n + 1, m + 1, [], _, _, _ => rfl
  | n + 1, m + 1, c :: r, col, h, h2 => by
    rw [List.length_cons] at h
    unfold splitN
    split
    · rename_i ht
      rw [splitN_more n m _ _ (by rw [List.length_drop, List.length_cons]; omega) (by omega)]
    · rw [splitN_more n m r _ (by omega) (by omega)]
theorem splitL_tok {r : List Nat} {col : Nat} (h : 0 < tokLen r) : splitL r col = match splitL (r.drop (tokLen r)) (col + tokLen r) with
    | .ok l => .ok ((r.take (tokLen r), col) :: l)
    | .error e => .error e := by
  cases r with
  | nil => exact absurd h (by simp [tokLen])
  | cons c r =>
    unfold splitL
    rw [List.length_cons]
    show splitN (r.length + 1) (c :: r) col = _
    rw [splitN, if_pos h, splitN_more _ r.length _ _ (Nat.le_refl _) (by rw [List.length_drop, List.length_cons]; omega)]
theorem splitL_space {r : List Nat} {col : Nat} : splitL (32 :: r) col = splitL r (col + 1) := by
  have h : tokLen (32 :: r) = 0 := by
    rw [tokLen_cons]
    rw [if_neg (by decide), if_neg (by decide), if_neg (by decide)]
    have : inSM ((32 :: r).take 2) = false := by
      cases r with
      | nil => decide
      | cons a r => simp [inSM]
    rw [this]
    rfl
  unfold splitL
  rw [List.length_cons]
  show splitN (r.length + 1) (32 :: r) col = _
  rw [splitN, if_neg (by rw [h]; decide), if_pos rfl]
theorem splitL_bad {c : Nat} {r : List Nat} {col : Nat} (h : tokLen (c :: r) = 0) (hc : c ≠ 32) : splitL (c :: r) col = .error col := by
  unfold splitL
  rw [List.length_cons]
  show splitN (r.length + 1) (c :: r) col = _
  rw [splitN, if_neg (by rw [h]; decide), if_neg hc]
theorem splitL_nil {col : Nat} : splitL [] col = .ok [] := rfl
theorem splitL_spaces : ∀ (g : Nat) {r : List Nat} {col : Nat}, splitL (List.replicate g 32 ++ r) col = splitL r (col + g)
  | 0, _, _ => rfl
  | g + 1, r, col => by
    rw [List.replicate_succ, List.cons_append, splitL_space, splitL_spaces g, show col + 1 + g = col + (g + 1) by omega]

/-! ### tokens -/
/-- a word, an integer, a sign, a mark -/
inductive Tok : List Nat → Prop where
  | word {p : List Nat} (h0 : p ≠ []) (h : ∀ c ∈ p, isL c = true) : Tok p
  | int {p : List Nat} (h0 : p ≠ []) (h : ∀ c ∈ p, isD c = true) : Tok p
  | neg {p : List Nat} (h0 : p ≠ []) (h : ∀ c ∈ p, isD c = true) : Tok (45 :: p)
  | sm {p : List Nat} (h : inSM p = true) : Tok p
/-- no token begins so: a strange sign, alone -/
def Strange (c : Nat) : Prop := isL c = false ∧ isD c = false ∧ c ≠ 32 ∧ inSM [c] = false
/-- two pieces that would run together -/
def touchB (p q : List Nat) : Bool :=
  (isL (p.getLastD 0) && isL (q.headD 0)) || (isD (q.headD 0) && (isD (p.getLastD 0) || decide (p = [45]))) || (decide (q.headD 0 = 61) && (decide (p = [60]) || decide (p = [62]) || decide (p = [33]) || decide (p = [61])))
/-- what stands behind a piece does not run together with it -/
def Sep (p s : List Nat) : Prop := ∀ c r, s = c :: r → c = 32 ∨ touchB p [c] = false
theorem takeWhile_app {f : Nat → Bool} : ∀ {p s : List Nat}, (∀ c ∈ p, f c = true) → (∀ c r, s = c :: r → f c = false) → (p ++ s).takeWhile f = p
  | [], [], _, _ => rfl
  | [], c :: r, _, h => by
    rw [List.nil_append, List.takeWhile_cons, h c r rfl]
    rfl
  | a :: p, s, h1, h2 => by
    rw [List.cons_append, List.takeWhile_cons, h1 a List.mem_cons_self, if_pos rfl, takeWhile_app (fun c hc => h1 c (List.mem_cons_of_mem _ hc)) h2]
theorem getLastD_mem : ∀ {p : List Nat}, p ≠ [] → p.getLastD 0 ∈ p
  | [], h => absurd rfl h
  | [a], _ => List.mem_cons_self
  | a :: b :: r, _ => List.mem_cons_of_mem _ (getLastD_mem (p := b :: r) (by simp))
theorem touch_l {p : List Nat} {c : Nat} (h0 : p ≠ []) (h : ∀ c ∈ p, isL c = true) (ht : touchB p [c] = false) : isL c = false := by
  unfold touchB at ht
  rw [h _ (getLastD_mem h0)] at ht
  cases hc : isL c with
  | false => rfl
  | true => rw [show [c].headD 0 = c from rfl, hc] at ht; simp at ht
theorem touch_d {p : List Nat} {c : Nat} (h0 : p ≠ []) (h : isD (p.getLastD 0) = true) (ht : touchB p [c] = false) : isD c = false := by
  unfold touchB at ht
  rw [h] at ht
  cases hc : isD c with
  | false => rfl
  | true => rw [show [c].headD 0 = c from rfl, hc] at ht; simp at ht
theorem ld_l {c : Nat} (h : isL c = true) : isD c = false ∧ c ≠ 45 ∧ c ≠ 32 := by
  rw [isL_iff] at h
  refine ⟨?_, by omega, by omega⟩
  cases hd : isD c with
  | false => rfl
  | true => rw [isD_iff] at hd; omega
theorem ld_d {c : Nat} (h : isD c = true) : isL c = false ∧ c ≠ 45 ∧ c ≠ 32 := by
  rw [isD_iff] at h
  refine ⟨?_, by omega, by omega⟩
  cases hd : isL c with
  | false => rfl
  | true => rw [isL_iff] at hd; omega
theorem sm_cases {p : List Nat} (h : inSM p = true) : p ∈ SG ++ MK := by
  unfold inSM at h
  rw [Bool.or_eq_true, decide_eq_true_iff, decide_eq_true_iff] at h
  exact List.mem_append.mpr h
theorem sm2 {c d : Nat} (h : inSM [c, d] = true) : d = 61 ∧ (c = 60 ∨ c = 61 ∨ c = 33 ∨ c = 62) := by
  have h := sm_cases h
  simp at h
  omega
/-- the token that stands ahead is read -/
theorem tokLen_tok {p s : List Nat} (h : Tok p) (hs : Sep p s) : tokLen (p ++ s) = p.length := by
  cases h with
  | word h0 h =>
    cases p with
    | nil => exact absurd rfl h0
    | cons c p =>
      have hc := h c List.mem_cons_self
      show tokLen (c :: (p ++ s)) = _
      rw [tokLen_cons]
      rw [if_pos hc, ← List.cons_append, takeWhile_app h fun d r e => ?_]
      rcases hs d r e with rfl | ht
      · rfl
      · exact touch_l h0 h ht
  | int h0 h =>
    cases p with
    | nil => exact absurd rfl h0
    | cons c p =>
      have hc := h c List.mem_cons_self
      have hn := ld_d hc
      show tokLen (c :: (p ++ s)) = _
      rw [tokLen_cons]
      rw [if_neg (by rw [hn.1]; decide), if_pos hc, ← List.cons_append, takeWhile_app h fun d r e => ?_]
      rcases hs d r e with rfl | ht
      · rfl
      · exact touch_d h0 (h _ (getLastD_mem h0)) ht
  | @neg p h0 h =>
    show tokLen (45 :: (p ++ s)) = _
    rw [tokLen_cons]
    rw [if_neg (by decide), if_neg (by decide), if_pos rfl, takeWhile_app h fun d r e => ?_]
    · rw [if_neg, List.length_cons]
      · omega
      · cases p with
        | nil => exact absurd rfl h0
        | cons a p => simp
    · rcases hs d r e with rfl | ht
      · rfl
      · refine touch_d (p := 45 :: p) (by simp) ?_ ht
        cases p with
        | nil => exact absurd rfl h0
        | cons a p => exact h _ (getLastD_mem (p := a :: p) (by simp))
  | sm h =>
    have hm := sm_cases h
    simp only [SG, MK, List.cons_append, List.nil_append, List.mem_cons, List.not_mem_nil, or_false] at hm
    have one : ∀ c : Nat, isL c = false → isD c = false → c ≠ 45 → inSM [c] = true → (∀ d r, s = d :: r → inSM [c, d] = false) → tokLen ([c] ++ s) = 1 := fun c h1 h2 h3 h4 h5 => by
      show tokLen (c :: s) = 1
      rw [tokLen_cons]
      rw [if_neg (by rw [h1]; decide), if_neg (by rw [h2]; decide), if_neg h3]
      cases s with
      | nil => rw [if_pos (by exact h4)]; rfl
      | cons d r => rw [if_neg (by rw [show (c :: d :: r).take 2 = [c, d] from rfl, h5 d r rfl]; decide), if_pos h4]
    have two : ∀ c d : Nat, isL c = false → isD c = false → c ≠ 45 → inSM [c, d] = true → tokLen ([c, d] ++ s) = 2 := fun c d h1 h2 h3 h4 => by
      show tokLen (c :: d :: s) = 2
      rw [tokLen_cons]
      rw [if_neg (by rw [h1]; decide), if_neg (by rw [h2]; decide), if_neg h3, if_pos (by exact h4)]
      rfl
    have mk : ∀ c : Nat, (c ≠ 60 ∧ c ≠ 61 ∧ c ≠ 33 ∧ c ≠ 62) → ∀ d r, s = d :: r → inSM [c, d] = false := fun c hc d r e => by
      cases q : inSM [c, d] with
      | false => rfl
      | true => have := sm2 q; omega
    have lg : ∀ c : Nat, (c = 60 ∨ c = 62) → p = [c] → ∀ d r, s = d :: r → inSM [c, d] = false := fun c hc hp d r e => by
      cases q : inSM [c, d] with
      | false => rfl
      | true =>
        have := (sm2 q).1
        subst this
        rcases hs _ r e with h | ht
        · exact absurd h (by decide)
        · rw [hp] at ht
          rcases hc with rfl | rfl <;> exact absurd ht (by decide)
    rcases hm with rfl | rfl | rfl | rfl | rfl | rfl | rfl | rfl | rfl | rfl | rfl
    · exact one 60 (by decide) (by decide) (by decide) (by decide) (lg 60 (.inl rfl) rfl)
    · exact two 60 61 (by decide) (by decide) (by decide) (by decide)
    · exact two 61 61 (by decide) (by decide) (by decide) (by decide)
    · exact two 33 61 (by decide) (by decide) (by decide) (by decide)
    · exact two 62 61 (by decide) (by decide) (by decide) (by decide)
    · exact one 62 (by decide) (by decide) (by decide) (by decide) (lg 62 (.inr rfl) rfl)
    all_goals exact one _ (by decide) (by decide) (by decide) (by decide) (mk _ (by decide))
/-- a strange sign is no token -/
theorem tokLen_strange {c : Nat} {s : List Nat} (h : Strange c) (hs : Sep [c] s) : tokLen (c :: s) = 0 := by
  obtain ⟨h1, h2, h3, h4⟩ := h
  rw [tokLen_cons]
  rw [if_neg (by rw [h1]; decide), if_neg (by rw [h2]; decide)]
  by_cases hc : c = 45
  · subst hc
    rw [if_pos rfl]
    have : (s.takeWhile isD).length = 0 := by
      cases s with
      | nil => rfl
      | cons d r =>
        have : isD d = false := by
          rcases hs d r rfl with rfl | ht
          · rfl
          · cases q : isD d with
            | false => rfl
            | true => unfold touchB at ht; rw [show [d].headD 0 = d from rfl, q] at ht; simp at ht
        rw [List.takeWhile_cons, this]
        rfl
    rw [this]
    rfl
  · rw [if_neg hc, if_neg, if_neg (by rw [h4]; decide)]
    cases s with
    | nil => rw [show [c].take 2 = [c] from rfl, h4]; decide
    | cons d r =>
      rw [show (c :: d :: r).take 2 = [c, d] from rfl]
      intro q
      have q2 := sm2 q
      obtain ⟨rfl, q2⟩ := q2
      rcases hs _ r rfl with h | ht
      · exact absurd h (by decide)
      · rcases q2 with rfl | rfl | rfl | rfl <;> first | exact absurd ht (by decide) | exact absurd h4 (by decide)

/-! ### a line that is laid out of pieces, each behind a gap -/
def lay : List (Nat × List Nat) → List Nat → List Nat
  | [], t => t
  | (g, p) :: r, t => List.replicate g 32 ++ (p ++ lay r t)
def cols : Nat → List (Nat × List Nat) → List Nat
  | _, [] => []
  | c, (g, p) :: r => (c + g) :: cols (c + g + p.length) r
/-- pieces that stand together do not run together -/
def Apart : List (Nat × List Nat) → Prop
  | [] => True
  | [_] => True
  | (_, p) :: (g, q) :: r => (g = 0 → touchB p q = false) ∧ q ≠ [] ∧ Apart ((g, q) :: r)
theorem touch_head {p q : List Nat} (h : q ≠ []) : ∃ c r, q = c :: r ∧ touchB p q = touchB p [c] := by
  cases q with
  | nil => exact absurd rfl h
  | cons c r => exact ⟨c, r, rfl, rfl⟩
theorem sep_lay {g : Nat} {p : List Nat} {r : List (Nat × List Nat)} {t : Nat} (h : Apart ((g, p) :: r)) : Sep p (lay r (List.replicate t 32)) := by
  intro c s e
  cases r with
  | nil =>
    cases t with
    | zero => cases e
    | succ t => simp only [lay, List.replicate_succ] at e; injection e with e1 e2; exact .inl e1.symm
  | cons x r =>
    obtain ⟨g', q⟩ := x
    obtain ⟨h1, h2, _⟩ := h
    cases g' with
    | succ g' =>
      rw [lay, List.replicate_succ, List.cons_append] at e
      injection e with e1 e2
      exact .inl e1.symm
    | zero =>
      obtain ⟨d, r', rfl, ht⟩ := touch_head (p := p) h2
      rw [lay, List.replicate_zero, List.nil_append, List.cons_append] at e
      injection e with e1 e2
      subst e1
      exact .inr (by rw [← ht]; exact h1 rfl)
theorem Apart.tail {x : Nat × List Nat} {r : List (Nat × List Nat)} (h : Apart (x :: r)) : Apart r := by
  cases r with
  | nil => trivial
  | cons y r => exact h.2.2
theorem tok_ne {p : List Nat} (h : Tok p) : p ≠ [] := by
  cases h with
  | word h0 _ => exact h0
  | int h0 _ => exact h0
  | neg h0 _ => simp
  | sm h => intro e; subst e; exact absurd h (by decide)
theorem split_lay {t : Nat} : ∀ {xs : List (Nat × List Nat)} {c : Nat}, Apart xs → (∀ x ∈ xs, Tok x.2) → splitL (lay xs (List.replicate t 32)) c = .ok ((xs.map (·.2)).zip (cols c xs))
  | [], c, _, _ => by
    have := splitL_spaces t (r := []) (col := c)
    rw [List.append_nil] at this
    rw [lay, this]
    rfl
  | (g, p) :: r, c, ha, ht => by
    have hp := ht (g, p) List.mem_cons_self
    have hl := tokLen_tok hp (sep_lay (t := t) ha)
    have hpos : 0 < p.length := List.length_pos_iff.mpr (tok_ne hp)
    rw [lay, splitL_spaces, splitL_tok (by rw [hl]; exact hpos), hl, List.drop_left, List.take_left, split_lay ha.tail fun x hx => ht x (List.mem_cons_of_mem _ hx)]
    rfl
theorem split_bad {t : Nat} : ∀ {xs ys : List (Nat × List Nat)} {g s c : Nat}, Apart (xs ++ (g, [s]) :: ys) → (∀ x ∈ xs, Tok x.2) → Strange s → ∃ e, splitL (lay (xs ++ (g, [s]) :: ys) (List.replicate t 32)) c = .error e ∧ (cols c (xs ++ (g, [s]) :: ys))[xs.length]? = some e
  | [], ys, g, s, c, ha, _, hs => by
    refine ⟨c + g, ?_, rfl⟩
    rw [List.nil_append, lay, splitL_spaces]
    exact splitL_bad (tokLen_strange hs (sep_lay (t := t) ha)) hs.2.2.1
  | (g', p) :: xs, ys, g, s, c, ha, ht, hs => by
    have hp := ht (g', p) List.mem_cons_self
    have hl : tokLen (p ++ lay (xs ++ (g, [s]) :: ys) (List.replicate t 32)) = p.length := tokLen_tok hp (sep_lay (t := t) ha)
    have hpos : 0 < p.length := List.length_pos_iff.mpr (tok_ne hp)
    obtain ⟨e, h1, h2⟩ := split_bad (t := t) (xs := xs) (ys := ys) (g := g) (s := s) (c := c + g' + p.length) ha.tail (fun x hx => ht x (List.mem_cons_of_mem _ hx)) hs
    refine ⟨e, ?_, h2⟩
    rw [List.cons_append, lay, splitL_spaces, splitL_tok (by rw [hl]; exact hpos), hl, List.drop_left, List.take_left, h1]
theorem lay_tail : ∀ {gs : List (Nat × List Nat)} {t : List Nat}, lay gs t = lay gs [] ++ t
  | [], _ => rfl
  | (g, p) :: r, t => by rw [lay, lay, lay_tail (gs := r) (t := t), List.append_assoc, List.append_assoc]
theorem lay_snoc : ∀ {gs : List (Nat × List Nat)} {g : Nat} {p : List Nat}, lay (gs ++ [(g, p)]) [] = lay gs [] ++ (List.replicate g 32 ++ p)
  | [], g, p => by simp [lay]
  | (g', p') :: r, g, p => by rw [List.cons_append, lay, lay_snoc (gs := r), lay, List.append_assoc, List.append_assoc]
theorem cols_snoc : ∀ {gs : List (Nat × List Nat)} {c g : Nat} {p : List Nat}, cols c (gs ++ [(g, p)]) = cols c gs ++ [c + (lay gs []).length + g]
  | [], c, g, p => by simp [lay, cols]
  | (g', p') :: r, c, g, p => by
    rw [List.cons_append, cols, cols_snoc (gs := r), cols, lay, List.cons_append]
    have : c + g' + p'.length + (lay r []).length + g = c + (List.replicate g' 32 ++ (p' ++ lay r [])).length + g := by
      rw [List.length_append, List.length_append, List.length_replicate]
      omega
    rw [this]
theorem apart_snoc : ∀ {gs : List (Nat × List Nat)} {g : Nat} {p : List Nat}, Apart gs → p ≠ [] → (∀ x, gs.getLast? = some x → g = 0 → touchB x.2 p = false) → Apart (gs ++ [(g, p)])
  | [], _, _, _, _, _ => trivial
  | [(g', q)], g, p, _, h0, h => ⟨fun e => h (g', q) rfl e, h0, trivial⟩
  | (g', q) :: (g2, q2) :: r, g, p, ha, h0, h => by
    obtain ⟨h1, h2, h3⟩ := ha
    exact ⟨h1, h2, apart_snoc h3 h0 fun x hx e => h x (by rw [List.getLast?_cons_cons]; exact hx) e⟩
theorem cols_len : ∀ {gs : List (Nat × List Nat)} {c : Nat}, (cols c gs).length = gs.length
  | [], _ => rfl
  | (g, p) :: r, c => by rw [cols, List.length_cons, cols_len, List.length_cons]
end El

set_option Elab.async false
set_option linter.all false
set_option maxRecDepth 100000
set_option maxHeartbeats 4000000
/-! Own words: methods of own classes, classes whose __init__ has defaults, tuple targets in comprehensions. -/
namespace El
open PySem PySem.Spec PyProof.Rows L2
structure CalM (P : Program) (w : World) (K : PySem.W.Frag) (mg : Str → Option Value) (base : Heap) (CX : CXT) (k : Nat) (C : Addr) (m : Str) (f : Addr) (fd : FuncData) (ps : List Str) (sp : Sp) : Prop extends CalB P w K mg base CX k f fd ps sp where
  cl : Cls K C
  me : Meth K C m f
/-- a class whose __init__ has defaults dvs that fill up -/
structure CalID (P : Program) (w : World) (K : PySem.W.Frag) (mg : Str → Option Value) (base : Heap) (CX : CXT) (k : Nat) (x : Str) (C f : Addr) (fd : FuncData) (ps : List Str) (dvs : List V) (sp : Sp) : Prop where
  G : FnOk P w K mg base CX k f fd ps sp
  b : ∃ ds, Vals dvs ds ∧ Binds K fd ps ds
  mkc : Mk K C f
  m : mg x = some (.ref C)
section
variable {X : Cx} {CX : CXT} {k : Nat} {C f : Addr} {fd : FuncData} {ps : List Str} {dvs : List V} {sp : Sp} {E : XK} {x : Str} {p pos : Pos} {e : Expr} {es : List Expr} {t : TA}
theorem pe_makeD (c : CalID X.prog X.w X.K X.mg X.base CX k x C f fd ps dvs sp) (hr : Room (k + 1) X.A) (hg : Gl X x) (hx : Passes CX X E) (ha : PA X (e :: es) t) (hdb : (x == ("__debug__" : Str)) = false := by decide)
    (he : starEach (e :: es) X.env = (false, eval e X.env) :: starEach es X.env := by rfl) (hpl : (backTo pos (starEach es X.env)).any (·.1) = false := by rfl) :
    PE X (.Call (.Name x p) (e :: es) [] pos) (tMake C sp dvs E t) := by
  obtain ⟨ds, hd, hb⟩ := c.b
  exact pe_make c.mkc c.G hr hg c.m hb hd hx ha hdb he hpl
end
section
variable {X : Cx}
theorem pg_tupK (K : PySem.W.Frag) {es : List Expr} {k : Nat} {t : TGs} {n : Nat} {pos : Pos} (hc : X.calm = true) (h : PGs X es t)
    (hn : (assignEach es X.env).length = n := by rfl) (hst : (assignEach es X.env).findIdx? (·.1) = none := by rfl) (hK : X.K = K := by rfl) : PG X (.Tuple es k pos) (gTup K n t) := hK ▸ pg_tup hc h hn hst
end
/-- a def of the text whose last parameter has a default -/
theorem fund_mk {K : PySem.W.Frag} {x qual : Str} {st : Stmt} {f T : Addr} {oc : Value} {od dd an : Option Addr} {osl dsl : Array (Option Value)} {kV doc pm cdv ct : Value} {its : Array Value} {n : Nat} {dvs : List V}
    (l : K.lookup f = some ⟨oc, od, .func (PySem.W.fnOf x qual (defArgs st) (defBody st) (defScope st) (.ref T) kV doc pm an cdv ct), osl⟩) (c : PySem.W.codeIn K cdv qual = true) (k : PySem.W.keepIn K (.ref f) = true)
    (lT : K.lookup T = some ⟨.type "tuple", dd, .seq its n, dsl⟩) (hv : Vals dvs its.toList) (hne : dvs ≠ []) : FunD K x qual (defArgs st) (defBody st) (defScope st) dvs [] f (PySem.W.fnOf x qual (defArgs st) (defBody st) (defScope st) (.ref T) kV doc pm an cdv ct) :=
  ⟨⟨oc, od, .ref T, kV, doc, pm, an, cdv, ct, osl, rfl, l, c, .inr ⟨hne, T, _, its.toList, n, rfl, lT, by simp, hv⟩, .inl rfl⟩, k⟩
end El

set_option Elab.async false
set_option linter.all false
set_option maxRecDepth 100000
set_option maxHeartbeats 4000000
/-! Own words: the text of an int as codes, a token, read back. -/
namespace El
open PySem PySem.Spec PyProof.Rows
theorem num_pos (n : Nat) : ((toString ((n : Nat) : Int) : String) : Str).cps.toList = (Nat.toDigits 10 n).map Char.toNat := PySem.W.KIN.signs_num n
theorem num_neg (n : Nat) : ((toString (Int.negSucc n) : String) : Str).cps.toList = 45 :: (Nat.toDigits 10 (n + 1)).map Char.toNat := by
  rw [signs_ofString]
  have e : (toString (Int.negSucc n) : String).toList = '-' :: (Nat.repr (n + 1)).toList := by
    show ("-" ++ Nat.repr (n + 1)).toList = _
    rw [String.toList_append]
    rfl
  rw [e, List.map_cons, Nat.toList_repr]
  rfl
theorem digits_all (n : Nat) : ∀ c ∈ (Nat.toDigits 10 n).map Char.toNat, 48 ≤ c ∧ c ≤ 57 := by
  intro c hc
  obtain ⟨ch, hch, e⟩ := List.mem_map.mp hc
  have r := digit_range (Nat.isDigit_of_mem_toDigits (by decide) (by decide) hch)
  rw [← e]
  exact r
theorem digits_ne (n : Nat) : (Nat.toDigits 10 n).map Char.toNat ≠ [] := by
  intro e
  exact Nat.toDigits_ne_nil (List.map_eq_nil_iff.mp e)
theorem digits_isD (n : Nat) : ∀ c ∈ (Nat.toDigits 10 n).map Char.toNat, isD c = true := fun c hc => isD_iff.mpr (digits_all n c hc)
theorem num_tok (i : Int) : Tok ((toString i : String) : Str).cps.toList := by
  cases i with
  | ofNat n => rw [show Int.ofNat n = ((n : Nat) : Int) from rfl, num_pos]; exact .int (digits_ne n) (digits_isD n)
  | negSucc n => rw [num_neg]; exact .neg (digits_ne _) (digits_isD _)
theorem num_last (i : Int) : isD (((toString i : String) : Str).cps.toList.getLastD 0) = true := by
  cases i with
  | ofNat n =>
    rw [show Int.ofNat n = ((n : Nat) : Int) from rfl, num_pos]
    exact digits_isD n _ (getLastD_mem (digits_ne n))
  | negSucc n =>
    rw [num_neg]
    have h := digits_ne (n + 1)
    have h2 := digits_isD (n + 1)
    generalize (Nat.toDigits 10 (n + 1)).map Char.toNat = xs at h h2
    cases xs with
    | nil => exact absurd rfl h
    | cons a r => exact h2 _ (getLastD_mem (p := a :: r) h)
theorem num_reads' {i : Int} (h : ((toString i : String) : Str).length ≤ 4300) : PySem.intText? ((toString i : String) : Str) = some i := by
  cases i with
  | ofNat n =>
    have e := PySem.intText_digits (x := ((toString ((n : Nat) : Int) : String) : Str)) (by rw [num_pos]; exact digits_all n) (by rw [num_pos]; exact digits_ne n) h
    rw [num_pos, PySem.W.KIN.val_back] at e
    exact e
  | negSucc n =>
    have e := PySem.intText_neg (x := ((toString (Int.negSucc n) : String) : Str)) (num_neg n) (digits_all _) (digits_ne _) h
    rw [PySem.W.KIN.val_back] at e
    rw [e]
    congr 1
/-- a text out of codes -/
def mkS (p : List Nat) : Str := ⟨p.toArray⟩
theorem mkS_cps (p : List Nat) : (mkS p).cps.toList = p := rfl
theorem mkS_len (p : List Nat) : (mkS p).length = p.length := rfl
theorem mkS_of {z : Str} {p : List Nat} (h : z.cps.toList = p) : z = mkS p := by
  cases z
  subst h
  rfl
theorem mkS_self (z : Str) : mkS z.cps.toList = z := (mkS_of rfl).symm
end El

set_option Elab.async false
set_option linter.all false
set_option maxRecDepth 100000
set_option maxHeartbeats 4000000
/-! Own words: `in`, `not in` and `[..]` of own classes. -/
namespace El
open PySem PySem.Spec PyProof.Rows L2
/-- an own class's `__contains__` -/
structure InC (K : PySem.W.Frag) (C f : Addr) : Prop where
  at_ : PySem.W.findIn K (.ref C) "__contains__" = some (some (.ref f))
  fn : PySem.W.isFn K (.ref f) = true
/-- an own class's `__getitem__` -/
structure ItC (K : PySem.W.Frag) (C f : Addr) : Prop where
  at_ : PySem.W.findIn K (.ref C) "__getitem__" = some (some (.ref f))
  fn : PySem.W.isFn K (.ref f) = true
  ns : PySem.W.noSeq K C = true
section
variable {X : Cx} {CX : CXT} {k : Nat} {C f : Addr} {fd : FuncData} {ps : List Str} {sp : Sp} {E : XK}
/-- x in a, a of the class at C; n: not in -/
def rInO (n : Bool) (C : Addr) (sp : Sp) (E : XK) : R2 := fun x y H Q => ∃ a dx fs, y = .ref a ∧ H a = some (.ins C dx fs) ∧ sp [.ref a, x] H (fun v H' => ∃ b : Bool, v = .bl b ∧ Q (.bl (n ^^ b)) H') E
theorem op_inO (c : InC X.K C f) (F : FnOk X.prog X.w X.K X.mg X.base CX k f fd ps sp) (hr : Room k X.A) (hb : Binds X.K fd ps []) (hx : Passes CX X E) : OpR X (compareOp .In) (rInO false C sp E) := by
  intro pins s σ H x y v u Q I rx ry h
  obtain ⟨a, dx, fs, rfl, ea, q⟩ := h
  obtain rfl : u = Value.ref a := ry
  obtain ⟨m, fr⟩ := I.fr
  obtain ⟨mA, O, _⟩ := ins_get I.hok ea
  obtain ⟨od, J, _⟩ := O.look
  refine PySem.W.in_K fr I.ok.mod.kin J c.at_ c.fn ?_
  refine wpAny_mono (run_fn (us := [.ref a, v]) (vs := [.ref a, x]) (ds := []) (dvs := []) F hr hb .nil hx I (.cons rfl (.cons rx .nil)) q) (fun u' s' h' => ?_) fun _ _ z => z
  obtain ⟨w, H', I', rw', b, rfl, q'⟩ := h'
  cases (show u' = Value.bool b from rw')
  refine wpAny_pure ⟨.bl b, H', I', rfl, ?_⟩
  cases b <;> exact q'
theorem op_notInO (c : InC X.K C f) (F : FnOk X.prog X.w X.K X.mg X.base CX k f fd ps sp) (hr : Room k X.A) (hb : Binds X.K fd ps []) (hx : Passes CX X E) : OpR X (compareOp .NotIn) (rInO true C sp E) := by
  intro pins s σ H x y v u Q I rx ry h
  obtain ⟨a, dx, fs, rfl, ea, q⟩ := h
  obtain rfl : u = Value.ref a := ry
  obtain ⟨m, fr⟩ := I.fr
  obtain ⟨mA, O, _⟩ := ins_get I.hok ea
  obtain ⟨od, J, _⟩ := O.look
  refine PySem.W.notIn_K fr I.ok.mod.kin J c.at_ c.fn ?_
  refine wpAny_mono (run_fn (us := [.ref a, v]) (vs := [.ref a, x]) (ds := []) (dvs := []) F hr hb .nil hx I (.cons rfl (.cons rx .nil)) q) (fun u' s' h' => ?_) fun _ _ z => z
  obtain ⟨w, H', I', rw', b, rfl, q'⟩ := h'
  cases (show u' = Value.bool b from rw')
  refine wpAny_pure ⟨.bl (!b), H', I', rfl, ?_⟩
  cases b <;> exact q'
/-- a[y], a of the class at C -/
def rItO (C : Addr) (sp : Sp) (E : XK) : R2 := fun x y H Q => ∃ a dx fs, x = .ref a ∧ H a = some (.ins C dx fs) ∧ sp [.ref a, y] H Q E
theorem op_itO (c : ItC X.K C f) (F : FnOk X.prog X.w X.K X.mg X.base CX k f fd ps sp) (hr : Room k X.A) (hb : Binds X.K fd ps []) (hx : Passes CX X E) : OpR X getItem (rItO C sp E) := by
  intro pins s σ H x y v u Q I rx ry h
  obtain ⟨a, dx, fs, rfl, ea, q⟩ := h
  obtain rfl : v = Value.ref a := rx
  obtain ⟨m, fr⟩ := I.fr
  obtain ⟨mA, O, _⟩ := ins_get I.hok ea
  obtain ⟨od, J, _⟩ := O.look
  refine PySem.W.getItem_K fr I.ok.mod.kin J c.ns c.at_ c.fn ?_
  exact run_fn (us := [.ref a, u]) (vs := [.ref a, y]) (ds := []) (dvs := []) F hr hb .nil hx I (.cons rfl (.cons ry .nil)) q
end
end El

set_option Elab.async false
set_option linter.all false
set_option maxRecDepth 100000
set_option maxHeartbeats 4000000
/-! Own words: iterating an own class whose `__iter__` returns iter(..) of a tuple. -/
namespace El
open PySem PySem.Spec PyProof.Rows L2
/-- a promise that may speak of how many objects there were at the call -/
def FnS (P : Program) (w : World) (K : PySem.W.Frag) (mg : Str → Option Value) (base : Heap) (CX : CXT) (k : Nat) (f : Addr) (sp : Nat → Sp) : Prop :=
  ∀ (A : Around) (outer : List Env) (s : Shared) (H : Hp) (us : List Value) (vs : List V) (Q : VK) (E : XK), Room k A → Env0 P w K mg base A outer s H → Vals vs us → sp s.heap.objs.size vs H Q E →
    codeAny (model P w) A (.call (.ref f) ⟨us, []⟩) (CR CX outer P w H s Q E) s
section
variable {P : Program} {w : World} {K : PySem.W.Frag} {mg : Str → Option Value} {base : Heap} {j k : Nat} {f : Addr} {sp : Nat → Sp}
theorem FnS.mono {CX : CXT} (F : FnS P w K mg base CX j f sp) (h : j ≤ k) : FnS P w K mg base CX k f sp := fun A outer s H us vs Q E hr => F A outer s H us vs Q E (hr.mono h)
theorem fun_okS {x qual : Str} {st : Stmt} {fd : FuncData} {N ps : List Str} (F : Fun K x qual st f fd) (S : FnScope N ps (defScope st)) (hb : Binds K fd ps []) (len : ∀ n vs H Q E, sp n vs H Q E → vs.length = ps.length)
    (hbody : ∀ (cdv : Value) (A : Around) (outer : List Env) (s : Shared) (H : Hp) (vs : List V) (Q : VK) (E : XK), Room k (A.deeper (envOfC qual (defScope st) s.heap.objs.size f cdv)) → sp s.heap.objs.size vs H Q E →
      ∃ t, PSs (cxOf CX0 P w K mg base N qual (defScope st) f cdv A outer s H E).nox (defBody st) t ∧ t { nx := fun _ H' => Q .non H', rt := Q } (start N vs) H) : FnS P w K mg base CX0 (k + 1) f sp := by
  obtain ⟨oc, od, kV, doc, pm, an, cdv, ct, osl, rfl, lk, hcd⟩ := F.ex
  intro A outer s H us vs Q E hr e0 r hsp
  have hl := len _ _ _ _ _ hsp
  have KX : K.In s.heap := e0.mod.kin.keeps fun b o e => (e0.bs b o e).1
  have bt := hb s us KX (by rw [List.append_nil, ← r.length]; exact hl)
  rw [List.append_nil] at bt
  have nl : s.heap.NoLimit := e0.mod.nolimit.keeps fun b o e => (e0.bs b o e).1
  refine codeAny_call_function hr.depth (KX _ _ lk) rfl S.co S.gen rfl (PySem.W.codeRec_of KX hcd) (bt _ _ _ _ ?_)
  refine wpAny_newFunctionEnv_cells S.kind (fun y hy => (S.par y.1 (List.of_mem_zip hy).1).imp id fun q => ⟨q, PySem.W.cellsFrom_some _ _ _ (.inl q)⟩) fun env he s1 x => ⟨nl.keeps x.toInCall.keep, codeAny_func ?_⟩
  subst he
  obtain ⟨t, ht, hq⟩ := hbody cdv A outer s H vs Q E (hr.deeper _) hsp
  have I := inv_start (CX := CX0) (w := w) (E := E) S hr.hd e0 hl r x
  refine wpAny_mono (ht.nox.run [] s1 (start N vs) H _ I hq) (fun fl s' hs => ?_) fun _ _ hs => hs
  match fl, hs with
  | .ret u, ⟨v, σ', H', J, rv, q⟩ => exact ⟨v, H', J.os, J.bare, J.base, J.hok, rv, q⟩
  | .next, ⟨σ', H', J, q⟩ => exact ⟨V.non, H', J.os, J.bare, J.base, J.hok, rfl, q⟩
  | .brk, ⟨_, _, _, q⟩ => exact False.elim q
  | .cont, ⟨_, _, _, q⟩ => exact False.elim q
end

/-! ### iter(..) of a tuple -/
def tiObj (t : Addr) : Obj := { cls := .type "tuple_iterator", data := .fields #[.ref t, .int 0 0] }
/-- at it the iterator of the tuple at t, at its beginning -/
def TitO (t it : Addr) : HO := .ext fun h => h.get? it = some (tiObj t)
theorem titO_ok {P : Program} {w : World} {H : Hp} {h : Heap} {t it : Addr} (e : h.get? it = some (tiObj t)) : ObjOk P w H h it (TitO t it) := ⟨e, ⟨_, e⟩, fun _ _ q k => k _ q⟩
theorem titO_get {X : Cx} {pins : List (Addr × Obj)} {σ : L2.St} {H : Hp} {s : Shared} {t it : Addr} (I : Inv X pins σ H s) (e : H it = some (TitO t it)) : s.heap.get? it = some (tiObj t) := (I.hok it _ e).1
def rIterT (K : PySem.W.Frag) (n : Nat) : List V → Hp → VK → Prop := fun xs H Q => ∃ (t : Addr) (zs : List V), xs = [.ref t] ∧ SqT K H t zs ∧ ∀ it, H it = none → n ≤ it → Q (.ref it) (upd H it (TitO t it))
theorem run_iterT {prog : Program} {w : World} {A : Around} {E : Value → Shared → Prop} {s : Shared} {t : Addr} {items : Array Value} {Q : Value → Shared → Prop} (ht : s.heap.IsTuple t items) (h : Q (.ref s.heap.objs.size) { s with heap := s.heap.push (tiObj t) }) : wpAny (model prog w) A (call (.builtin "iter") [.ref t]) Q E s := by
  refine Calls.call_function_entry (by decide +kernel) (by decide +kernel) PySem.W.kdk_entry_iter (PySem.W.kdk_args_iter _) ?_
  unfold Builtin.«iter»
  refine wpAny_bind (m := someArgs "iter" 1 2 _) (wpAny_of_eq (a := [Value.ref t]) (by first | rfl | kernel_rfl!) ?_)
  exact wpAny_bind (wpAny_pyIter_tuple ht (wpAny_pure ⟨_, rfl, h⟩))
theorem call_iterT {X : Cx} : CallR X (.builtin "iter") (rIterT X.K X.s_0.heap.objs.size) := by
  intro pins s σ H xs us Q I r h
  obtain ⟨t, zs, rfl, hq, q⟩ := h
  obtain rfl := Vals.ref1 r
  obtain ⟨its, rv, p, hz⟩ := I.tuple hq
  refine run_iterT (show s.heap.IsTuple t its.toArray from p) ?_
  exact ⟨.ref s.heap.objs.size, _, I.laid (t' := s.toks) (fun b u e => Heap.get?_push_of_some _ e) (Nat.le_refl _) (titO_ok (Heap.get?_push_size _ rfl)), rfl, q _ (I.hok.fresh (Nat.le_refl _)) I.sz⟩
theorem iterTK {X : Cx} (K : PySem.W.Frag) (n : Nat) (h : X.K = K := by rfl) (hn : X.s_0.heap.objs.size = n := by rfl) : CallR X (.builtin "iter") (rIterT K n) := h ▸ hn ▸ call_iterT

/-! ### for x in a, a of the class at C -/
structure OitC (K : PySem.W.Frag) (C f : Addr) : Prop where
  at_ : PySem.W.findIn K (.ref C) "__iter__" = some (some (.ref f))
  fn : PySem.W.isFn K (.ref f) = true
/-- behind the call the iterator is forgotten -/
def iOwnT (K : PySem.W.Frag) (C : Addr) (sp : Nat → Sp) (n : Nat) (E : XK) (te : TE) : TI := fun σ H R => te σ H fun x H1 => ∃ a dx fs, x = .ref a ∧ H1 a = some (.ins C dx fs) ∧ ∀ m, n ≤ m → sp m [.ref a] H1 (fun v H2 => ∃ t it, v = .ref it ∧ H2 it = some (TitO t it) ∧ n ≤ it ∧ R (Itt K t) (ItX.dropH H2 it)) E
theorem pi_ownT {X : Cx} {CX : CXT} {k : Nat} {C f : Addr} {sp : Nat → Sp} {E : XK} {tg e : Expr} {te : TE} (c : OitC X.K C f) (F : FnS X.prog X.w X.K X.mg X.base CX k f sp) (hr : Room k X.A) (hx : Passes CX X E) (he : PE X e te) : PI X tg e (iOwnT X.K C sp X.s_0.heap.objs.size E te) := by
  refine ⟨fun pins s σ H R I h => ?_⟩
  refine thn (he.run pins s σ H _ I h) fun v s1 ⟨x, H1, I1, r1, a, dx, fs, ex, ea, q⟩ => ?_
  subst ex
  obtain rfl : v = Value.ref a := r1
  obtain ⟨m, fr⟩ := I1.fr
  obtain ⟨mA, O, _⟩ := ins_get I1.hok ea
  obtain ⟨od, J, _⟩ := O.look
  refine PySem.W.owit_iter fr I1.ok.mod.kin J c.at_ c.fn ?_
  refine wpAny_call (codeAny_mono (F X.A X.stack s1 H1 [.ref a] [.ref a] _ E hr I1.env0 (.cons rfl .nil) (q _ I1.sz)) fun r s' hq => ?_)
  match r, hq with
  | .error e, hq => exact hx pins σ H1 s1 e s' I1 hq
  | .ok (.ret u), hq =>
    obtain ⟨w', H2, I2, rw', t, it, rfl, hi, hn, hR⟩ := I1.after hq
    obtain rfl : u = Value.ref it := rw'
    have eo := titO_get I2 hi
    have hi' := hi
    unfold TitO at hi'
    have LT : PySem.W.Looks (model X.prog X.w) s'.heap (typeOf (.ref it)) (.type "tuple_iterator") := (PySem.W.Looks.ld (part := none) eo).andThen .now
    have LN : PySem.W.Looks (model X.prog X.w) s'.heap (specialOf (.ref it) (Str.ofString "__next__")) (some (.builtin "tuple_iterator.__next__")) := LT.andThen (PySem.W.Looks.of_pure slot_tupleiter_next.lookup)
    refine LN.here ?_
    refine ⟨it, [it], _, _, ItX.dropH H2 it, rfl, ItX.inv_drop I2 hi', turn_tuple t it, ⟨_, eo, rfl, rfl⟩, fun b hb => ?_, hR⟩
    have e : b = it := by simpa using hb
    rw [e]
    exact ItX.inv_fp I2 hi hn
  | .ok .next, hq => exact False.elim hq
  | .ok .brk, hq => exact False.elim hq
  | .ok .cont, hq => exact False.elim hq
end El

set_option Elab.async false
set_option linter.all false
set_option maxRecDepth 100000
set_option maxHeartbeats 4000000
/-! Own words: len(set(t)) of a tuple of any number of texts. -/
namespace El
open PySem PySem.Spec PyProof.Rows L2
/-- among the first i texts -/
def Has (xs : List Str) (i : Nat) : Str → Bool := fun y => (xs.take i).any (· == y)
/-- c different ones among the first i, as far as it is asked -/
def Cnt (xs : List Str) (i c : Nat) : Prop := c ≤ i ∧ (c = i ↔ (xs.take i).Nodup)
theorem has_iff {xs : List Str} {i : Nat} {y : Str} : Has xs i y = true ↔ y ∈ xs.take i := by
  unfold Has
  rw [List.any_eq_true]
  constructor
  · rintro ⟨z, hz, e⟩
    rw [beq_iff_eq] at e
    exact e ▸ hz
  · intro h
    exact ⟨y, h, beq_iff_eq.mpr rfl⟩
theorem take_more {xs : List Str} {i : Nat} {x : Str} (e : xs[i]? = some x) : xs.take (i + 1) = xs.take i ++ [x] := by rw [List.take_add_one, e]; rfl
theorem Cnt.nil (xs : List Str) : Cnt xs 0 0 := ⟨Nat.le_refl _, by simp⟩
theorem Cnt.more {xs : List Str} {i c : Nat} {x : Str} (h : Cnt xs i c) (e : xs[i]? = some x) : Cnt xs (i + 1) (if Has xs i x = true then c else c + 1) := by
  obtain ⟨h1, h2⟩ := h
  have hn : (xs.take (i + 1)).Nodup ↔ (xs.take i).Nodup ∧ x ∉ xs.take i := by
    rw [take_more e, List.nodup_append]
    constructor
    · rintro ⟨a, -, b⟩
      exact ⟨a, fun hx => b x hx x (List.mem_singleton.mpr rfl) rfl⟩
    · rintro ⟨a, b⟩
      refine ⟨a, by simp, fun y hy z hz => ?_⟩
      rw [List.mem_singleton] at hz
      intro q
      exact b (hz ▸ q ▸ hy)
  unfold Cnt
  rw [hn]
  by_cases q : Has xs i x = true
  · rw [if_pos q]
    refine ⟨by omega, ⟨fun z => absurd z (by omega), fun z => absurd (has_iff.mp q) z.2⟩⟩
  · rw [if_neg q]
    refine ⟨by omega, ⟨fun z => ⟨h2.mp (by omega), fun y => q (has_iff.mpr y)⟩, fun z => by rw [h2.mpr z.1]⟩⟩
section
variable {prog : Program} {w : World} {A : Around} {R : Result → Shared → Prop} {it : Addr} {fp wr : List Addr} {G : Array GenState → Array GenState → Prop} {n : Nat} {Pv : Nat → Value → Prop} {St : Nat → Shared → Prop}
theorem loopTx (W : WalksS prog w A.in1 it fp wr G n Pv St) (b : Addr) (hb : b ∉ fp) (xs : List Str) (hn : xs.length = n) (hs : n + 1 < scanBound) (hv : ∀ i v, Pv i v → ∃ t, v = .str (xs.getD i Str.empty) t) :
    ∀ (k i : Nat) (s : Shared), n - i = k → i ≤ n → St i s → (∃ c, Cnt xs i c ∧ s.heap.SetOf (PySem.strKind prog w) b (Has xs i) c) →
      (∀ s' c, Moved (b :: wr) G s s' → Cnt xs n c → s'.heap.SetOf (PySem.strKind prog w) b (Has xs n) c → R (.ok (.ret .none)) s') →
      codeAny (model prog w) A (.builtin "set.update.loop" ⟨[.ref b, .ref it], []⟩) R s := by
  have hbw : b ∉ wr := fun h => hb (W.sub _ h)
  have wsub : ∀ q ∈ wr, q ∈ b :: wr := fun q hq => List.mem_cons_of_mem _ hq
  intro k
  induction k with
  | zero =>
    rintro i s hk hi st ⟨c, hc, ho⟩ done
    obtain rfl : i = n := by omega
    refine codeAny_builtin PyProof.Rows.F.entry_set_update_loop ?_
    rw [Around.under_plainId PyProof.Rows.F.plain_set_update_loop _]
    refine wpAny_bind (m := pyNext (.ref it)) (W.done s _ _ st fun s1 mv => ?_)
    refine wpAny_pure (done s1 c (mv.mono wsub) hc ?_)
    obtain ⟨o, es, ep, tb, e, more⟩ := ho
    exact ⟨o, es, ep, tb, mv.heap b _ hbw e, more⟩
  | succ k ih =>
    rintro i s hk hi st ⟨c, hc, ho⟩ done
    have lt : i < n := by omega
    refine codeAny_builtin PyProof.Rows.F.entry_set_update_loop ?_
    rw [Around.under_plainId PyProof.Rows.F.plain_set_update_loop _]
    refine wpAny_bind (m := pyNext (.ref it)) (W.item i s _ _ lt st fun v s1 pv st1 mv => ?_)
    obtain ⟨t, rfl⟩ := hv i v pv
    have ei : xs[i]? = some (xs.getD i Str.empty) := by
      rw [List.getD_eq_getElem?_getD, List.getElem?_eq_getElem (by omega)]; rfl
    have ho1 : s1.heap.SetOf (PySem.strKind prog w) b (Has xs i) c := by
      obtain ⟨o, es, ep, tb, e, more⟩ := ho
      exact ⟨o, es, ep, tb, mv.heap b _ hbw e, more⟩
    refine wpAny_bind (m := holding [Value.str (xs.getD i Str.empty) t] (setAdd b (.str (xs.getD i Str.empty) t))) (wpAny_holding ?_)
    unfold setAdd
    refine wpAny_holding (wpAny_bind ((PySem.strKind prog w).pyHash (strKind_is _ _ _ _) ?_))
    have hlt : c + 1 < scanBound := by have := hc.1; omega
    refine wpAny_setAddHashed_of (knd := PySem.strKind prog w) (s := { s1 with toks := s1.toks + 1 }) (strKind_is _ _ _ _) rfl ho1 hlt fun h' same ho2 => ?_
    have ho3 : h'.SetOf (PySem.strKind prog w) b (Has xs (i + 1)) (if Has xs i (xs.getD i Str.empty) = true then c else c + 1) := by
      refine SetOf_congr ho2 (fun y => ?_) rfl
      rw [Bool.eq_iff_iff, has_iff, take_more ei, List.mem_append, List.mem_singleton, Bool.or_eq_true, has_iff, decide_eq_true_iff]
    refine wpAny_pure ⟨plainId_quiet PyProof.Rows.F.plain_set_update_loop _, ih (i + 1) _ (by omega) lt (W.frame _ s1 _ _ st1 (Nat.le_succ _) fun q hq o e => ?_) ⟨_, hc.more ei, ho3⟩ fun s2 c2 mv2 hc2 hS2 => ?_⟩
    · exact (same.2 q fun z => hb (z ▸ hq)).trans e
    · refine done s2 c2 (Moved.trans W.gtrans ((mv.mono wsub).then_heap (Nat.le_succ _) fun q o hq e => ?_) mv2) hc2 hS2
      exact (same.2 q fun z => hq (z ▸ List.mem_cons_self)).trans e
end
/-- a new set's object -/
def setObj (led : Bool) : Obj := { cls := .type "set", dict := none, data := .set #[] 0 (.fresh 0 0 led) }
section
variable {prog : Program} {w : World} {A : Around} {E : Value → Shared → Prop} {s : Shared}
/-- what set.__init__ does to a new set with a tuple of texts -/
theorem init_tx {l : Addr} {items : Array Value} {xs : List Str} {led : Bool} (hh : A.handled = none) (hl : s.heap.IsTuple l items) (hi : PyProof.Rows.StrsAre items.toList xs) (hx : xs.length + 1 < scanBound) :
    codeAny (model prog w) A (.call (.builtin "set.__init__") ⟨[.ref s.heap.objs.size, .ref l], []⟩)
      (wants (fun r s2 => r = .none ∧ ∃ h' tk c, s2 = { s with heap := h', toks := tk } ∧ Cnt xs xs.length c ∧ h'.SetOf (PySem.strKind prog w) s.heap.objs.size (Has xs xs.length) c ∧ (∀ q o, s.heap.get? q = some o → h'.get? q = some o)) E)
      { s with heap := s.heap.push (setObj led) } := by
  have hT : Shared.TypeIs { s with heap := s.heap.push (setObj led) } (.ref s.heap.objs.size) "set" := ⟨_, Heap.get?_push_size _ rfl, rfl⟩
  refine codeAny_call_builtin PySem.F.called_set.init.plain PySem.F.entry_set_init (check_set_init_1 hT ?_)
  obtain ⟨⟨kc, kd, kx, ks⟩, hol, hcl, nl, hdl⟩ := hl
  simp only at hcl hdl
  subst hcl hdl
  have hol' : (s.heap.push (setObj led)).get? l = some _ := Heap.get?_push_of_some _ hol
  have hl1 : (s.heap.push (setObj led)).IsTuple l items := ⟨_, hol', rfl, nl, rfl⟩
  have hsls := PySem.F.sub_tuple_set
  have hslf := PySem.F.sub_tuple_frozenset
  have hne : (Value.type "tuple" == Value.type "dict") = false := by decide
  unfold Builtin.«set.__init__» noKeywords Builtin.Frozenset.updateFrom
  generalize ePI : pyIter = PI
  wp_walk
  subst ePI
  refine wpAny_pyIter_tuple hl1 (wpAny_bind (wpAny_runValue ?_))
  have below : l < s.heap.objs.size := Heap.lt_size hol
  have nh : A.in1.in1.handled = none := by simp [hh]
  have z1 : (s.heap.push (setObj led)).objs.size = s.heap.objs.size + 1 := Heap.size_push ..
  have apart : l ≠ (s.heap.push (setObj led)).objs.size := by
    rw [z1]
    exact Nat.ne_of_lt (Nat.lt_succ_of_lt below)
  have out : s.heap.objs.size ∉ [(s.heap.push (setObj led)).objs.size, l] := by
    rw [List.mem_cons, List.mem_singleton, z1]
    exact fun q => q.elim (Nat.ne_of_lt (Nat.lt_succ_self _)) (Nat.ne_of_gt below)
  have zx : xs.length = items.size := by rw [← StrsAre.len_eq hi, Array.length_toList]
  refine loopTx ((Walks.tuple nh _ l apart items).toS) s.heap.objs.size out xs zx (zx ▸ hx) (fun i v e => SS.strs_at hi i v (Array.getElem?_toList ▸ e)) (items.size - 0) 0 _ (by omega) (Nat.zero_le _) ?at_ ?first ?last
  case at_ => exact ⟨⟨_, Heap.get?_push_size _ rfl, rfl, rfl⟩, hl1.push _⟩
  case first =>
    refine ⟨0, Cnt.nil xs, ?_⟩
    refine SetOf_congr ((PyProof.Rows.setObjOf_fresh (knd := PySem.strKind prog w) led).setOf (Heap.get?_push_of_some _ (Heap.get?_push_size _ rfl)) (by unfold scanBound; omega)) (fun y => ?_) rfl
    rfl
  case last =>
    rintro ⟨h', g', d', tk', os'⟩ c mv hc ho
    obtain rfl : g' = s.gens := mv.gens
    obtain rfl : d' = s.drawn := mv.drawn
    obtain rfl : os' = s.os := mv.os
    refine wpAny_pure (wpAny_pure ⟨rfl, h', tk', c, rfl, zx ▸ hc, zx ▸ ho, fun q o e => ?_⟩)
    have lq := Heap.lt_size e
    refine mv.heap q o (by rw [List.mem_cons, List.mem_singleton, z1]; exact fun z => z.elim (Nat.ne_of_lt lq) (Nat.ne_of_lt (Nat.lt_succ_of_lt lq))) (Heap.get?_push_of_some _ (Heap.get?_push_of_some _ e))
set_option maxHeartbeats 8000000 in
theorem call_set_tx {l : Addr} {items : Array Value} {xs : List Str} {Q : Value → Shared → Prop} (hh : A.handled = none) (hl : s.heap.IsTuple l items) (hi : PyProof.Rows.StrsAre items.toList xs) (hx : xs.length + 1 < scanBound)
    (h : ∀ (h' : Heap) (tk c : Nat), Cnt xs xs.length c → h'.SetOf (PySem.strKind prog w) s.heap.objs.size (Has xs xs.length) c → (∀ q o, s.heap.get? q = some o → h'.get? q = some o) → Q (.ref s.heap.objs.size) { s with heap := h', toks := tk }) :
    wpAny (model prog w) A (call (.type "set") [.ref l]) Q E s := by
  obtain ⟨_, _, hmro⟩ := PySem.F.called_set.mro
  have hmade := PySem.F.called_set.made
  have hsub := PySem.F.called_set.sub
  have h1 := PySem.F.called_set.notType
  have h2 := PySem.F.called_set.canCreate
  have hct := PySem.F.typeCall_set_1 (.ref l)
  refine wpAny_call (codeAny_of_tree (wpAny_pure (a := _) ⟨Code.quiet_builtin _ (by decide +kernel), codeAny_builtin PySem.F.entry_type_call ?_⟩))
  rw [Around.under_plain (weight_type_call_type "set" [.ref l] []) rfl]
  repeat (any_goals (first | assumption | wp_step))
  refine codeAny_mono (code_set_new_1 (.ref l) (E := E) (Q₁ := fun v s1 => ∃ led, v = .ref s.heap.objs.size ∧ s1 = { s with heap := s.heap.push (setObj led) }) fun led => ⟨led, rfl, rfl⟩) fun r s1 hr => ?_
  match r, hr with
  | .ok (.ret v), hr =>
    obtain ⟨led, rfl, rfl⟩ := hr
    have hS : (s.heap.push (setObj led)).get? s.heap.objs.size = some (setObj led) := Heap.get?_push_size _ rfl
    have hT : Shared.TypeIs { s with heap := s.heap.push (setObj led) } (.ref s.heap.objs.size) "set" := ⟨_, hS, rfl⟩
    have hli := PySem.F.called_set.init.lookup
    have hbi := PySem.F.called_set.init.bind (.ref s.heap.objs.size)
    repeat (any_goals (first | assumption | wp_step))
    refine codeAny_mono (init_tx (E := E) (by simp [hh]) hl hi hx) fun r s2 hr => ?_
    match r, hr with
    | .ok (.ret v), hr =>
      obtain ⟨rfl, h', tk, c, rfl, hc, ho, keep⟩ := hr
      repeat (any_goals (first | assumption | wp_step))
      exact h h' tk c hc ho keep
    | .error e, hr => exact hr
    | .ok .next, hr => exact hr.elim
    | .ok .brk, hr => exact hr.elim
    | .ok .cont, hr => exact hr.elim
  | .error e, hr => exact hr
  | .ok .next, hr => exact hr.elim
  | .ok .brk, hr => exact hr.elim
  | .ok .cont, hr => exact hr.elim
end
/-- len(set(t)), t a tuple of texts: how many different ones, so far as it matters here -/
def tLenSetTx (K : PySem.W.Frag) (ta : TE) : TE := fun σ H Q => ta σ H fun x H1 => ∃ (l : Addr) (xs : List Str), x = .ref l ∧ SqT K H1 l (xs.map V.str) ∧ xs.length < 64 ∧ ∀ c : Nat, c ≤ xs.length → (c = xs.length ↔ xs.Nodup) → Q (.int c) H1
theorem pe_lenSetTx {X : Cx} {a : Expr} {ta : TE} {p p2 q pos : Pos} (hg : Gl X "len") (hm : X.mg "len" = none) (hg2 : Gl X "set") (hm2 : X.mg "set" = none) (ha : PE X a ta) (hc : X.calm = true := by rfl)
    (na : starEach [a] X.env = (false, eval a X.env) :: starEach [] X.env := by rfl) : PE X (.Call (.Name "len" p) [.Call (.Name "set" p2) [a] [] q] [] pos) (tLenSetTx X.K ta) := by
  refine ⟨fun pins s σ H Q I h => Call_ (ld_blt I hg hm boot_len (PyProof.Rows.callWith_builtin1 (PyProof.Rows.args_cons (Call_ (ld_blt I hg2 hm2 boot_set (PyProof.Rows.callWith_type1 (PyProof.Rows.args_cons (thn (ha.run pins s σ H _ I h) fun v s1 ⟨x, H1, I1, r1, q1⟩ => PyProof.Rows.args_nil ?_) na) na rfl))) rfl) rfl rfl))⟩
  obtain ⟨l, xs, rfl, ht, few, q1⟩ := q1
  obtain rfl : v = Value.ref l := r1
  obtain ⟨its, rv, pl, _⟩ := I1.tuple ht
  refine call_set_tx (I1.ok.hd hc) pl (by simpa using strsAre_of rv) (by unfold scanBound; omega) fun h' tk c hcn hS keep => PyProof.Rows.args_nil ?_
  obtain ⟨o, es, ep, tb, ho, hex, hd, _, _, _, hf, hn⟩ := hS
  have I2 : Inv X pins σ H1 { s1 with heap := h', toks := tk } := I1.kept keep
  obtain ⟨c1, c2⟩ := hcn
  rw [List.take_length] at c2
  exact call_len_set ho hex hd hf (by rw [hn]; omega) ⟨.int c, H1, I2.tok _, ⟨_, by rw [hn]⟩, q1 c c1 c2⟩
end El

set_option Elab.async false
set_option linter.all false
set_option maxRecDepth 100000
set_option maxHeartbeats 4000000
/-! Own words: enumerate(t) of a tuple. -/
namespace El
open PySem PySem.Spec PyProof.Rows L2
open AutoSeq1 (wpAny_loadPart')
/-- the tuple at a, each item in a new pair with its place -/
def IteT (K : PySem.W.Frag) (a : Addr) : It where
  go := fun i H => ∃ (xs : List V) (x : V), SqT K H a xs ∧ xs[i]? = some x
  yld := fun i H v H' => ∃ T x, v = .ref T ∧ H T = none ∧ H' = upd H T (.tup [.int (i : Nat), x]) ∧ ∀ xs, SqT K H a xs → xs[i]? = some x
  stop := fun i H => ∃ xs : List V, SqT K H a xs ∧ xs.length ≤ i
theorem walk_enumT {K : PySem.W.Frag} {a : Addr} {xs : List V} : Walk (IteT K a) xs.length (fun H => SqT K H a xs) (YPair (fun i => some (.int (i : Nat))) (fun i => xs[i]?)) where
  goes := fun i _ hi q => ⟨xs, xs[i], q, by simp [hi]⟩
  stops := fun _ q => ⟨xs, q, Nat.le_refl _⟩
  yields := fun i H v H' _ q y => by
    obtain ⟨T, x, h1, h2, h3, h4⟩ := y
    exact ⟨T, .int (i : Nat), x, h1, h2, h3, rfl, h4 xs q⟩
/-- the object of an enumerate over it, at its beginning -/
def enObj (it : Addr) : Obj := { cls := .type "enumerate", data := .fields #[.none, .bool false, .ref it, rawInt 0, .none, .none] }
theorem enum_newT (t : Addr) (items : Array Value) (n : Nat) (dct : Option Addr) (sl : Array (Option Value)) :
    Meets (Builtin.«enumerate.__new__» ⟨[.type "enumerate", .ref t], []⟩) (fun _ R s => s.heap.get? t = some ⟨.type "tuple", dct, .seq items n, sl⟩ ∧ R (.ok (.ret (.ref (s.heap.push (tiObj t)).objs.size))) { s with heap := (s.heap.push (tiObj t)).push (enObj s.heap.objs.size) }) :=
  .of_wp fun prog w A R s h => by
    obtain ⟨hp, g, d, tk, os⟩ := s
    obtain ⟨ht, h⟩ := h
    have hsub := sub_enumerate
    have hT : Heap.IsTuple (Shared.heap ⟨hp, g, d, tk, os⟩) t items := ⟨_, ht, rfl, n, rfl⟩
    wp_walk using wpAny_loadPart' ht
    refine wpAny_stack_any fun st => wpAny_pure ?_
    split
    · rename_i c _ _ _ _ _
      cases (c == Value.type "enumerate") <;> (wp_walk using wpAny_loadPart' ht, wpAny_pyIter_tuple hT; exact ⟨_, rfl, h⟩)
    · wp_walk using wpAny_loadPart' ht, wpAny_pyIter_tuple hT
      exact ⟨_, rfl, h⟩
section
variable {prog : Program} {w : World} {A : Around} {E : Value → Shared → Prop} {s : Shared}
theorem call_enumT {t : Addr} {items : Array Value} {Q : Value → Shared → Prop} (hT : s.heap.IsTuple t items)
    (h : ∀ h', IsEnum h' (s.heap.objs.size + 1) s.heap.objs.size 0 .none → h'.IsTupleIter s.heap.objs.size t 0 → (∀ b o, s.heap.get? b = some o → h'.get? b = some o) → Q (.ref (s.heap.objs.size + 1)) { s with heap := h' }) :
    wpAny (model prog w) A (call (.type "enumerate") [.ref t]) Q E s := by
  obtain ⟨⟨c, dct, dt, sl⟩, ht, hc, n, hd⟩ := hT
  simp only at hc hd
  subst hc hd
  refine callType_new F.called_enumerate (by decide) (F.typeCall_enumerate_1 _) (F.newCall_enumerate_1 _) (fun obj => F.args_object_init_2 obj _) F.entry_enumerate_new (enum_newT t items n dct sl) ⟨ht, ?_⟩
  have hz : (s.heap.push (tiObj t)).objs.size = s.heap.objs.size + 1 := Heap.size_push ..
  have he : IsEnum ((s.heap.push (tiObj t)).push (enObj s.heap.objs.size)) (s.heap.objs.size + 1) s.heap.objs.size 0 .none := by
    have q := Heap.get?_push_size (s.heap.push (tiObj t)) (o := enObj s.heap.objs.size) rfl
    rw [hz] at q
    exact q
  rw [hz]
  exact ⟨⟨_, he, rfl⟩, h _ he ⟨_, Heap.get?_push_of_some _ (Heap.get?_push_size _ rfl), rfl, rfl⟩ fun b o x => Heap.get?_push_of_some _ (Heap.get?_push_of_some _ x)⟩
end
theorem turn_enumT {P : Program} {w : World} {K : PySem.W.Frag} {elts : List Expr} {kk : Nat} {tpos : Pos} (t e it : Addr) (items : Array Value) :
    Turn P w K (.Tuple elts kk tpos) (IteT K t) [e, it] e (fun i h => (∃ old, IsEnum h e it ((i : Nat) : Int) old) ∧ h.IsTupleIter it t i ∧ e ≠ it ∧ t ≠ it ∧ t ≠ e) where
  mem := List.mem_cons_self
  obj := fun i h st b hb => by
    obtain ⟨⟨old, he⟩, ⟨o, ho, hc, hd⟩, _⟩ := st
    rw [List.mem_cons, List.mem_singleton] at hb
    rcases hb with z | z
    · exact z ▸ ⟨_, he, fun v q => nomatch q⟩
    · exact z ▸ ⟨o, ho, fun v q => by rw [hd] at q; cases q⟩
  keep := fun i h h' st k => by
    obtain ⟨⟨old, he⟩, hi, hne⟩ := st
    exact ⟨⟨old, k e List.mem_cons_self _ he⟩, hi.at fun o q => k it (List.mem_cons_of_mem _ List.mem_cons_self) o q, hne⟩
  item := by
    intro X hP hw hK hc i pins s σ H E I hf st hg
    subst hP hw hK
    obtain ⟨⟨old, he⟩, hit, hne, n1, n2⟩ := st
    obtain ⟨xs, x, hq, hx⟩ := hg
    obtain ⟨its, rv, p, hz⟩ := I.tuple hq
    obtain ⟨u, hu, ru⟩ := rv.get hx
    have lt : i < its.toArray.size := by
      have := (List.getElem?_eq_some_iff.mp hu).1
      simpa using this
    have le : e < s.heap.objs.size := Heap.lt_size he
    have li : it < s.heap.objs.size := by obtain ⟨_, q, _⟩ := hit; exact Heap.lt_size q
    have nf : e ∉ [it, t] := by
      rw [List.mem_cons, List.mem_singleton]
      exact fun z => z.elim hne fun z => n2 z.symm
    refine wpAny_pyNext_enum_itemD (Draws.tuple (A := X.A.in1) (by simpa using I.ok.hd hc) it t n1 its.toArray) he ⟨hit, p⟩ lt hne nf fun v h' tk hv ho hit' hT hsz hk => ?_
    obtain rfl : v = u := by
      have e1 : its.toArray[i]? = some u := by simpa using hu
      exact Option.some.inj (hv.symm.trans e1)
    refine ⟨_, rfl, wpAny_letOwnedTupleGo_enum (s := { s with heap := h', toks := tk + 1 }) ho fun h'' he' sb => ?_⟩
    have hT2 := (sb.2 _ (Nat.ne_of_gt le)).trans hT
    have new : ObjOk X.prog X.w (upd H s.heap.objs.size (.tup [.int (i : Nat), x])) h'' s.heap.objs.size (.tup [.int (i : Nat), x]) :=
      ⟨by show 2 ≤ sizeLine; decide, [.int i tk, v], .cons ⟨_, rfl⟩ (.cons ru .nil), ⟨_, hT2, rfl, _, rfl⟩⟩
    have I1 : Inv X pins σ (upd H s.heap.objs.size (.tup [.int (i : Nat), x])) { s with heap := h'', toks := tk + 1 } := by
      refine I.turnedNew (ch := [e, it]) (fun b ob hb q => ?_) hf (Nat.le_refl _) new
      rw [List.mem_cons, List.mem_singleton, not_or] at hb
      exact (sb.2 b hb.1).trans (hk b ob hb.1 hb.2 q)
    refine ⟨.ref s.heap.objs.size, _, I1, rfl, ⟨_, x, rfl, I.hok.fresh (Nat.le_refl _), rfl, fun ys hy => by rw [I.tuple_inj hy hq]; exact hx⟩, ⟨⟨v, ?_⟩, hit'.1.at fun o q => (sb.2 it (Ne.symm hne)).trans q, hne, n1, n2⟩, fun b hb => ?_⟩
    · have e1 : ((i + 1 : Nat) : Int) = (i : Int) + 1 := by omega
      rw [e1]
      exact he'
    · have lb : b < s.heap.objs.size := by
        rw [List.mem_cons, List.mem_singleton] at hb
        rcases hb with z | z
        · rw [z]; exact le
        · rw [z]; exact li
      rw [upd_ne (Nat.ne_of_lt lb)]
      exact (hf b hb).1
  done := by
    intro X hP hw hK hc i pins s σ H E I hf st hg
    subst hP hw hK
    obtain ⟨⟨old, he⟩, hit, hne, n1, n2⟩ := st
    obtain ⟨xs, hq, hx⟩ := hg
    obtain ⟨its, rv, p, hz⟩ := I.tuple hq
    obtain ⟨f0, f1, f2, f3, f4, f5⟩ := hf it (List.mem_cons_of_mem _ List.mem_cons_self)
    have none_ : its.toArray[i]? = none := by
      have hl := rv.length
      simp
      omega
    have D : Draws X.prog X.w X.A.in1 it [it, t] 0 (fun _ _ => False) (fun _ h => h.IsTupleIter it t i ∧ h.IsTuple t its.toArray) :=
      { live := fun _ _ st => let ⟨o, ho, _⟩ := st.1; ⟨o, ho⟩
        frame := fun _ _ _ st hk => ⟨st.1.at fun o e => hk it List.mem_cons_self o e, st.2.at fun o e => hk t (List.mem_cons_of_mem _ List.mem_cons_self) o e⟩
        item := fun _ _ _ _ z => absurd z (Nat.not_lt_zero _)
        done := fun s Q E st hE => wpAny_nextOf_tuple_end (by simpa using I.ok.hd hc) st.1 st.2 none_ hE }
    exact wpAny_pyNext_enum_endD D he ⟨hit, p⟩ fun h' eb => ⟨rfl, I.turned (t' := s.toks) (fun b o hb q => eb b o hb q) f0 f1 f3 f4 f5⟩
  self := fun A i s Q E st h => by
    obtain ⟨⟨_, he⟩, _⟩ := st
    exact wpAny_pyIter_enum he h
def iEnumT (K : PySem.W.Frag) (ta : TA) : TI := fun σ H R => ta σ H fun vs H1 => ∃ a xs, vs = [.ref a] ∧ SqT K H1 a xs ∧ R (IteT K a) H1
theorem pi_enumT {X : Cx} {e : Expr} {ta : TA} {p pos tpos : Pos} {elts : List Expr} {kk : Nat} (hg : Gl X "enumerate") (hm : X.mg "enumerate" = none) (ha : PA X [e] ta) (hs : starEach [e] X.env = [(false, eval e X.env)] := by rfl) :
    PI X (.Tuple elts kk tpos) (.Call (.Name "enumerate" p) [e] [] pos) (iEnumT X.K ta) := by
  refine ⟨fun pins s σ H R I h => Call_ (ld_blt I hg hm boot_enumerate (PyProof.Rows.callWith_type1 (thn (ha.run pos pins s σ H _ I h) fun us s1 ⟨vs, H1, I1, r1, a, xs, ex, hq, q⟩ => ?_) hs rfl))⟩
  subst ex
  obtain rfl := Vals.ref1 r1
  obtain ⟨its, rv, pt, hz⟩ := I1.tuple hq
  have la : a < s1.heap.objs.size := by obtain ⟨o, ho, _⟩ := pt; exact Heap.lt_size ho
  refine call_enumT pt fun h' he hit hk => wpAny_pyIter_enum he ?_
  refine ⟨s1.heap.objs.size + 1, [s1.heap.objs.size + 1, s1.heap.objs.size], _, _, H1, rfl, I1.kept (t' := s1.toks) hk, turn_enumT a (s1.heap.objs.size + 1) s1.heap.objs.size its.toArray, ⟨⟨.none, he⟩, hit, Nat.succ_ne_self _, Nat.ne_of_lt la, Nat.ne_of_lt (Nat.lt_succ_of_lt la)⟩, fun b hb => ?_, q⟩
  have hle : s1.heap.objs.size ≤ b := by
    rw [List.mem_cons, List.mem_singleton] at hb
    rcases hb with z | z
    · exact z ▸ Nat.le_succ _
    · exact z ▸ Nat.le_refl _
  exact I1.fpOk hle (I1.hok.fresh hle)
end El

set_option Elab.async false
set_option linter.all false
set_option maxRecDepth 100000
set_option maxHeartbeats 4000000
/-! Own words: a list or a tuple walked; own classes made, read by [..] inside a try; own exceptions without arguments. -/
namespace El
open PySem PySem.Spec PyProof.Rows L2 NdefX
section
variable {X : Cx} {tg l : Expr} {tl : TE}
def iSeq (K : PySem.W.Frag) (tl : TE) : TI := fun σ H R => tl σ H fun x H1 => ∃ a xs, x = .ref a ∧ ((SqL K H1 a xs ∧ R (Itl K a) H1) ∨ (SqT K H1 a xs ∧ R (Itt K a) H1))
theorem pi_seq (hl : PE X l tl) : PI X tg l (iSeq X.K tl) := by
  refine ⟨fun pins s σ H R I h => thn (hl.run pins s σ H _ I h) fun v s1 ⟨x, H1, I1, r1, a, xs, ex, q⟩ => ?_⟩
  subst ex
  obtain rfl : v = Value.ref a := r1
  have new : ∀ b ∈ [s1.heap.objs.size], FpOk X pins H1 b := fun b hb => by
    rw [List.mem_singleton] at hb
    exact hb ▸ I1.fpOk (Nat.le_refl _) (I1.hok.fresh (Nat.le_refl _))
  rcases q with ⟨hq, q⟩ | ⟨hq, q⟩
  · obtain ⟨its, rv, p, _⟩ := I1.list hq
    exact wpAny_pyIter_list p.isList ⟨_, _, _, _, H1, rfl, I1.kept (t' := s1.toks) fun b o e => Heap.get?_push_of_some _ e, turn_list a _, ⟨_, Heap.get?_push_size _ rfl, rfl, rfl⟩, new, q⟩
  · obtain ⟨its, rv, p, _⟩ := I1.tuple hq
    exact wpAny_pyIter_tuple p ⟨_, _, _, _, H1, rfl, I1.kept (t' := s1.toks) fun b o e => Heap.get?_push_of_some _ e, turn_tuple a _, ⟨_, Heap.get?_push_size _ rfl, rfl, rfl⟩, new, q⟩
end
theorem pi_seqK {X : Cx} {tg l : Expr} {tl : TE} (K : PySem.W.Frag) (hl : PE X l tl) (h : X.K = K := by rfl) : PI X tg l (iSeq K tl) := h ▸ pi_seq hl
section
variable {X : Cx} {CX : CXT} {k : Nat} {C f : Addr} {fd : FuncData} {ps : List Str} {ds : List Value} {dvs : List V} {sp : Sp} {E : L2.St → XK} {x : Str} {p pos : Pos} {a b e : Expr} {es : List Expr} {ta tb : TE} {t : TA}
/-- C(e, ..), what its __init__ lets out being taken where it stands -/
def tMakeS (C : Addr) (sp : Sp) (E : L2.St → XK) (t : TA) : TE := fun σ H Q => t σ H fun vs H1 => ∀ x dx, H1 x = none → H1 dx = none → dx ≠ x → sp (.ref x :: vs) (upd (upd H1 dx (.own x)) x (.ins C dx [])) (fun v H2 => v = .non ∧ Q (.ref x) H2) (E σ)
theorem run_makeS {pins : List (Addr × Obj)} {σ : L2.St} {H : Hp} {s : Shared} {Q : VK} {us : List Value} {vs : List V} {E : XK} (M : Mk X.K C f) (F : FnOk X.prog X.w X.K X.mg X.base CX k f fd ps sp) (hr : Room (k + 1) X.A) (hb : Binds X.K fd ps [])
    (hx : PassesAt CX X σ E) (I : Inv X pins σ H s) (r : Vals vs us)
    (h : ∀ x dx, H x = none → H dx = none → dx ≠ x → sp (.ref x :: vs) (upd (upd H dx (.own x)) x (.ins C dx [])) (fun v H2 => v = .non ∧ Q (.ref x) H2) E) : wpAny (model X.prog X.w) X.A (call (.ref C) us) (EP X pins σ Q) X.xe s := by
  have fresh := fun n hn => I.hok.fresh (a := n) hn
  have q := h (s.heap.objs.size + 1) s.heap.objs.size (fresh _ (Nat.le_succ _)) (fresh _ (Nat.le_refl _)) (Nat.ne_of_lt (Nat.lt_succ_self _))
  have J := Inv.made (C := C) I
  have rr : Vals (V.ref (s.heap.objs.size + 1) :: vs) (Value.ref (s.heap.objs.size + 1) :: us) := .cons rfl r
  have hl : (Value.ref (s.heap.objs.size + 1) :: us ++ []).length = ps.length := by rw [List.append_nil, ← rr.length]; exact F.len _ _ _ _ q
  have bt := hb _ (Value.ref (s.heap.objs.size + 1) :: us) J.kIn hl
  rw [List.append_nil] at bt
  refine wpAny_call (make_map (f := f) I.kIn M.makes M.init (beq_iff_eq.mp M.fn) (codeAny_mono (F.run _ X.stack _ _ ⟨Value.ref (s.heap.objs.size + 1) :: us, []⟩ _ _ _ E (hr.make C us []) (J.env0.make C us []) bt rr q) fun r s' hs => ?_))
  match r, hs with
  | .error e, hs => exact hx pins _ _ e s' J hs
  | .ok (.ret u), hs =>
    obtain ⟨v, H', J', rv, ev, q'⟩ := J.after hs
    subst ev
    exact ⟨rv, V.ref (s.heap.objs.size + 1), H', J', rfl, q'⟩
  | .ok .next, hs => exact False.elim hs
  | .ok .brk, hs => exact False.elim hs
  | .ok .cont, hs => exact False.elim hs
theorem pe_makeS (M : Mk X.K C f) (F : FnOk X.prog X.w X.K X.mg X.base CX k f fd ps sp) (hr : Room (k + 1) X.A) (hg : Gl X x) (hm : X.mg x = some (.ref C)) (hb : Binds X.K fd ps []) (hx : ∀ σ, PassesAt CX X σ (E σ)) (ha : PA X (e :: es) t)
    (hdb : (x == ("__debug__" : Str)) = false := by decide) (he : starEach (e :: es) X.env = (false, eval e X.env) :: starEach es X.env := by rfl) (hpl : (backTo pos (starEach es X.env)).any (·.1) = false := by rfl) :
    PE X (.Call (.Name x p) (e :: es) [] pos) (tMakeS C sp E t) := by
  refine ⟨fun pins s σ H Q I h => wpAny_Call_Name_kw (ld_glob I hg hm ?_ hdb)⟩
  refine PySem.W.callWith_K (h₀ := X.base) I.ok.mod.kin M.kp (thn (ha.run pos pins s σ H _ I h) fun us s1 ⟨vs, H1, I1, r, q⟩ => ⟨I1.kIn, ?_⟩) he hpl
  exact run_makeS M F hr hb (hx σ) I1 r q
/-- an own class's `__getitem__`, as it is read by [..] -/
structure SubC (K : PySem.W.Frag) (C f : Addr) : Prop where
  at_ : PySem.W.findIn K (.ref C) "__getitem__" = some (some (.ref f))
  fn : PySem.W.isFn K (.ref f) = true
  fi : PySem.W.fnIn K f = true
/-- a[y], a of the class at C, what it lets out being taken where it stands -/
def tItS (C : Addr) (sp : Sp) (E : L2.St → XK) (ta tb : TE) : TE := fun σ H Q => ta σ H fun x H1 => tb σ H1 fun y H2 => ∃ a dx fs, x = .ref a ∧ H2 a = some (.ins C dx fs) ∧ sp [.ref a, y] H2 Q (E σ)
theorem pe_itS (c : SubC X.K C f) (F : FnOk X.prog X.w X.K X.mg X.base CX k f fd ps sp) (hr : Room (k + 1) X.A) (hb : Binds X.K fd ps []) (hx : ∀ σ, PassesAt CX X σ (E σ)) (ha : PE X a ta) (hb2 : PE X b tb)
    (hs : ∀ o i, subscripted b true o i = runValue (.builtin "lifetime.subscript" ⟨[o, i], []⟩) := by intro _ _; rfl) : PE X (.Subscript a b pos) (tItS C sp E ta tb) := by
  refine ⟨fun pins s σ H Q I h => Subscript_ (binT ha hb2 I (R := fun x y H2 => ∃ a dx fs, x = .ref a ∧ H2 a = some (.ins C dx fs) ∧ sp [.ref a, y] H2 Q (E σ)) h fun v u s2 x y H2 I2 rx ry q => ?_)⟩
  obtain ⟨a, dx, fs, rfl, ea, q⟩ := q
  obtain rfl : v = Value.ref a := rx
  obtain ⟨m, fr⟩ := I2.fr
  obtain ⟨mA, O, _⟩ := ins_get I2.hok ea
  obtain ⟨od, J, _⟩ := O.look
  refine PySem.W.sub_K fr I2.ok.mod.kin J c.at_ c.fi c.fn ?_ (hs _ _)
  have hl : ([Value.ref a, u] ++ []).length = ps.length := F.len _ _ _ _ q
  have bt := hb s2 [.ref a, u] I2.kIn hl
  rw [List.append_nil] at bt
  refine wpAny_call (codeAny_mono (F.run X.A.in1 X.stack s2 H2 ⟨[.ref a, u], []⟩ [.ref a, u] [.ref a, y] Q (E σ) hr.in1 I2.env0.in1 bt (.cons rfl (.cons ry .nil)) q) fun r s' hq => ?_)
  match r, hq with
  | .error e, hq => exact hx σ pins H2 s2 e s' I2 hq
  | .ok (.ret u), hq => exact I2.after hq
  | .ok .next, hq => exact False.elim hq
  | .ok .brk, hq => exact False.elim hq
  | .ok .cont, hq => exact False.elim hq
end
section
variable {X : Cx} {CX : CXT} {k : Nat} {C f : Addr} {fd : FuncData} {ps : List Str} {sp : Sp} {E : XK} {pos : Pos} {a b : Expr} {ta tb : TE}
theorem pe_itO (c : SubC X.K C f) (F : FnOk X.prog X.w X.K X.mg X.base CX k f fd ps sp) (hr : Room (k + 1) X.A) (hb : Binds X.K fd ps []) (hx : Passes CX X E) (ha : PE X a ta) (hb2 : PE X b tb)
    (hs : ∀ o i, subscripted b true o i = runValue (.builtin "lifetime.subscript" ⟨[o, i], []⟩) := by intro _ _; rfl) : PE X (.Subscript a b pos) (tItS C sp (fun _ => E) ta tb) :=
  pe_itS c F hr hb (fun σ pins H s e s' I h => hx pins σ H s e s' I h) ha hb2 hs
end
/-! ### an own exception made without arguments -/
section
variable {X : Cx} {p pos : Pos}
theorem pmk_oex0 {CX : CXT} {x : Str} {C fI : Addr} {k : Nat} {fd : FuncData} {ps : List Str} {sp : Sp} (T : OexC X.K C) (iC : PySem.W.findIn X.K (.ref C) "__init__" = some (some (.ref fI))) (tI : PySem.W.typeIn X.K (.ref fI) = some (.type "function"))
    (F1 : FnOk X.prog X.w X.K X.mg X.base CX k fI fd ps sp) (hr : Room (k + 1) X.A) (hb : Binds X.K fd ps []) (hx : Passes CX X (fun _ _ _ => False)) (hg : Gl X x) (hm : X.mg x = some (.ref C)) (hdb : (x == ("__debug__" : Str)) = false := by decide) :
    PMk X (.Call (.Name x p) [] [] pos) (tMkO C sp [] tNil) := by
  intro pins s σ H Q I h
  obtain ⟨nm, q, N, bs, bm, sn, sub, ab, col, dd, k0, k1, k2, k3, k5, hC, hbm⟩ := T.cls
  refine wpAny_Call_Name_kw (ld_glob I hg hm ?_ hdb)
  refine PySem.W.callWith_K0 I.kIn T.kC ?_
  obtain ⟨_, q1⟩ := h
  obtain ⟨hp, g, dr, tk, os⟩ := s
  have up : hp.objs.size ≤ hp.objs.size + 1 := Nat.le_succ _
  have hq := q1 (hp.objs.size + 1) (I.hok.fresh up)
  have stay : ∀ b o, hp.get? b = some o → ((hp.push (PySem.W.kdv_tup [])).push (PySem.HandSPX.excO C hp.objs.size)).get? b = some o := fun b o e => Heap.get?_push_of_some _ (Heap.get?_push_of_some _ e)
  have there : ((hp.push (PySem.W.kdv_tup [])).push (PySem.HandSPX.excO C hp.objs.size)).get? (hp.objs.size + 1) = some (PySem.HandSPX.excO C hp.objs.size) := by heap_get
  have I2 := I.laid (t' := tk) (a := hp.objs.size + 1) (o := exo (hp.objs.size + 1) C none) (h' := (hp.push (PySem.W.kdv_tup [])).push (PySem.HandSPX.excO C hp.objs.size)) stay up (exo_ok there)
  have hl : ([Value.ref (hp.objs.size + 1)] ++ []).length = ps.length := F1.len _ _ _ _ hq
  refine wpAny_call (PySem.HandSPX.call_own F.excBase_ValueError (fun Y => PySem.HandSPX.refsVE_contains Y bm hbm) (I.kIn _ _ hC) (PySem.W.looks_findIn I.kIn iC) (fun self => PySem.W.bind_fn I.kIn self tI) (Nat.zero_le _)
    (codeAny_mono (F1.run _ X.stack _ _ ⟨[Value.ref (hp.objs.size + 1)], []⟩ [Value.ref (hp.objs.size + 1)] _ _ (fun _ _ _ => False) (hr.make C [] []) (I2.env0.make C [] []) (hb _ [Value.ref (hp.objs.size + 1)] I2.kIn hl) (show Vals [V.ref (hp.objs.size + 1)] [Value.ref (hp.objs.size + 1)] from .cons rfl .nil) hq) fun r s' hs => ?_))
  match r, hs with
  | .error er, hs => exact hx pins σ _ _ er s' I2 hs
  | .ok (.ret u), hs =>
    obtain ⟨v, H2, os2, bare2, un2, hok2, rv, ev, d, fs, ea, ed, hd1, q2⟩ := hs
    subst ev
    obtain ⟨h2, g2, d2, t2, os'⟩ := s'
    exact ⟨rv, mk_end (raises_own T.exC T.tyC) I up stay un2 hok2 os2 bare2 ea ed hd1 q2⟩
  | .ok .next, hs => exact False.elim hs
  | .ok .brk, hs => exact False.elim hs
  | .ok .cont, hs => exact False.elim hs
end
/-! ### lists turned round, places of items -/
theorem mt_reverseL {X : Cx} : MtM X "list.reverse" (fun x vs H Q => ∃ l xs, x = .ref l ∧ vs = [] ∧ H l = some (.lst xs) ∧ Q .non (upd H l (.lst xs.reverse))) := by
  intro pins s σ H x vs v us Q I rx rv h
  obtain ⟨l, xs, rfl, rfl, hH, q⟩ := h
  obtain rfl : v = Value.ref l := rx
  obtain rfl := rv.zero
  obtain ⟨z, its, n, r, hl, e⟩ := I.lstM hH
  have few : its.length ≤ sizeLine := by rw [← r.length]; omega
  refine call_meets F.slot_list_reverse ⟨_, e, rfl⟩ F.entry_list_reverse (F.args_list_reverse_1 _) (AutoSeq1.list_reverse_list_0 l its.toArray n (by simpa using few)) ⟨e, ?_⟩
  exact ⟨.non, _, I.lset (its' := its.reverse) (ys := xs.reverse) hH e (by simp) r.reverse (by rw [List.length_reverse]; omega), rfl, q⟩
theorem mindexK {X : Cx} (K : PySem.W.Frag) (h : X.K = K := by rfl) : MtR X "list.index" (rIndex K) := h ▸ mt_index
theorem mtupK {X : Cx} (K : PySem.W.Frag) (h : X.K = K := by rfl) : MtR X "tuple.index" (fun x xs H Q => ∃ p, ∃ ys : List Str, ∃ z j, x = .ref p ∧ xs = [.str z] ∧ SqT K H p (ys.map V.str) ∧ ys[j]? = some z ∧ (∀ m, m < j → ys[m]? ≠ some z) ∧ Q (.int (j : Nat)) H) := h ▸ mt_tup_index
/-! ### defs of own classes, ready to be called -/
structure CalIn (P : Program) (w : World) (K : PySem.W.Frag) (mg : Str → Option Value) (base : Heap) (CX : CXT) (k : Nat) (C f : Addr) (fd : FuncData) (ps : List Str) (sp : Sp) : Prop extends CalB P w K mg base CX k f fd ps sp where
  ic : InC K C f
structure CalSub (P : Program) (w : World) (K : PySem.W.Frag) (mg : Str → Option Value) (base : Heap) (CX : CXT) (k : Nat) (C f : Addr) (fd : FuncData) (ps : List Str) (sp : Sp) : Prop extends CalB P w K mg base CX k f fd ps sp where
  su : SubC K C f
structure CalIt (P : Program) (w : World) (K : PySem.W.Frag) (mg : Str → Option Value) (base : Heap) (CX : CXT) (k : Nat) (C f : Addr) (sp : Nat → Sp) : Prop where
  F : FnS P w K mg base CX k f sp
  oi : OitC K C f
end El

set_option Elab.async false
set_option linter.all false
set_option maxRecDepth 100000
set_option maxHeartbeats 4000000
/-! Own words: comprehensions with two clauses, walk in walk. -/
namespace El
open PySem PySem.Spec PyProof.Rows L2
/-- the second clause's loop, from which Nx is reached -/
def Inner2 (J1 : It) (g1 : TG) (tt1 : TT) (te : TE) (σ2 : L2.St) (vs1 : List Nat) (D : Addr) (Nx : Hp → Prop) (H4 : Hp) : Prop :=
  ∃ W1 : Nat → Nat → Hp → Prop, (∃ m, W1 0 m H4) ∧ ∀ j k H, W1 j k H → (J1.stop j H ∧ Nx H) ∨ (J1.go j H ∧ ∃ Nx1 : Hp → Prop, (∀ H', Nx1 H' → ∃ k', k' < k ∧ W1 (j + 1) k' H') ∧ ∀ x H', J1.yld j H x H' → g1 x (wipe σ2 vs1) H' fun σ3 H5 => wipe σ3 vs1 = wipe σ2 vs1 ∧ tt1 σ3 H5 fun b H6 =>
    if b = true then te σ3 H6 fun y H7 => ∃ acc, H7 D = some (.lst acc) ∧ acc.length < sizeLine ∧ Nx1 (upd H7 D (.lst (acc ++ [y]))) else Nx1 H6)
theorem inner2_it {J1 : It} {n : Nat} {G : Hp → Prop} {Y : Nat → Hp → V → Hp → Prop} (w : Walk J1 n G Y) {g1 : TG} {tt1 : TT} {te : TE} {σ2 : L2.St} {vs1 : List Nat} {D : Addr} {Nx : Hp → Prop} {H4 : Hp} (Pv : Nat → Hp → Prop) (h0 : Pv 0 H4) (hG : ∀ j H, j ≤ n → Pv j H → G H)
    (hs : ∀ j x H H', j < n → Pv j H → Y j H x H' → g1 x (wipe σ2 vs1) H' fun σ3 H5 => wipe σ3 vs1 = wipe σ2 vs1 ∧ tt1 σ3 H5 fun b H6 =>
      if b = true then te σ3 H6 fun y H7 => ∃ acc, H7 D = some (.lst acc) ∧ acc.length < sizeLine ∧ Pv (j + 1) (upd H7 D (.lst (acc ++ [y]))) else Pv (j + 1) H6)
    (hd : ∀ H, Pv n H → Nx H) : Inner2 J1 g1 tt1 te σ2 vs1 D Nx H4 := by
  refine ⟨fun j k H => k = n - j ∧ j ≤ n ∧ Pv j H, ⟨n, by simp, Nat.zero_le _, h0⟩, ?_⟩
  rintro j k H ⟨rfl, hj, p⟩
  have q := hG j H hj p
  by_cases e : j < n
  · exact .inr ⟨w.goes j H e q, Pv (j + 1), fun H' p' => ⟨n - (j + 1), by omega, rfl, e, p'⟩, fun x H' y => hs j x H H' e p (w.yields j H x H' e q y)⟩
  · obtain rfl : j = n := by omega
    exact .inl ⟨w.stops H q, hd H p⟩
theorem lc2_it {J : It} {n : Nat} {G : Hp → Prop} {Y : Nat → Hp → V → Hp → Prop} (w : Walk J n G Y) {g : TG} {tt : TT} {wi1 : TI} {g1 : TG} {tt1 : TT} {te : TE} {vs vs1 : List Nat} {σ : L2.St} {H1 : Hp} {D : Addr} {Qd : Hp → Prop} (Pv : Nat → Hp → Prop) (h0 : Pv 0 (upd H1 D (.lst []))) (hG : ∀ i H, i ≤ n → Pv i H → G H)
    (hs : ∀ i x H H', i < n → Pv i H → Y i H x H' → g x (wipe σ vs) H' fun σ2 H2 => wipe σ2 vs = wipe σ vs ∧ tt σ2 H2 fun b H3 =>
      if b = true then wi1 σ2 H3 fun J1 H4 => Inner2 J1 g1 tt1 te σ2 vs1 D (Pv (i + 1)) H4 else Pv (i + 1) H3)
    (hd : ∀ H, Pv n H → Qd H) :
    ∃ W : Nat → Nat → Hp → Prop, (∃ m, W 0 m (upd H1 D (.lst []))) ∧ ∀ i m H, W i m H →
      (J.stop i H ∧ Qd H) ∨ (J.go i H ∧ ∃ Nx : Hp → Prop, (∀ H', Nx H' → ∃ m', m' < m ∧ W (i + 1) m' H') ∧ ∀ x H', J.yld i H x H' → g x (wipe σ vs) H' fun σ2 H2 => wipe σ2 vs = wipe σ vs ∧ tt σ2 H2 fun b H3 =>
        if b = true then wi1 σ2 H3 fun J1 H4 => Inner2 J1 g1 tt1 te σ2 vs1 D Nx H4 else Nx H3) := by
  refine ⟨fun i m H => m = n - i ∧ i ≤ n ∧ Pv i H, ⟨n, by simp, Nat.zero_le _, h0⟩, ?_⟩
  rintro i m H ⟨rfl, hi, p⟩
  have q := hG i H hi p
  by_cases e : i < n
  · exact .inr ⟨w.goes i H e q, Pv (i + 1), fun H' p' => ⟨n - (i + 1), by omega, rfl, e, p'⟩, fun x H' y => hs i x H H' e p (w.yields i H x H' e q y)⟩
  · obtain rfl : i = n := by omega
    exact .inl ⟨w.stops H q, hd H p⟩
/-- tuple(p), p a list or a tuple: a tuple of the same items stands behind it -/
theorem tupS {X : Cx} : CallR X (.type "tuple") (fun xs H Q => ∃ p ys, xs = [.ref p] ∧ (H p = some (.lst ys) ∨ H p = some (.tup ys)) ∧ ∀ H1 t, (∀ b o, H b = some o → H1 b = some o) → H1 t = some (.tup ys) → Q (.ref t) H1) := cwk call_tuple_of fun xs H Q q => by
  obtain ⟨p, ys, rfl, hp, q⟩ := q
  rcases hp with hp | hp
  · refine ⟨p, ys, rfl, .inl ⟨SqL.of hp, fun l nl => q _ l (fun b o hb => ?_) upd_same⟩⟩
    rw [upd_ne (fun e => by rw [e, nl] at hb; cases hb)]
    exact hb
  · exact ⟨p, ys, rfl, .inr ⟨SqT.of hp, q H p (fun _ _ h => h) hp⟩⟩
end El

set_option Elab.async false
set_option linter.all false
set_option maxRecDepth 100000
set_option maxHeartbeats 4000000
/-! Own words: a set comprehension of texts, and such a set sorted. -/
namespace El
open PySem PySem.Spec PyProof.Rows L2

/-- the text of an entry -/
def txE (e : Int × Value) : Str := match e.2 with | .str k _ => k | _ => Str.empty
/-- an entry as a set of texts has it -/
def TxE (P : Program) (w : World) (e : Int × Value) : Prop := ∃ k t, e.2 = Value.str k t ∧ e.1 = (PySem.strKind P w).hash k
/-- a set of texts, walkable: S its members, n their number -/
def TxS (P : Program) (w : World) (h : Heap) (a : Addr) (S : Str → Bool) (n : Nat) : Prop :=
  ∃ o es ep t, h.get? a = some o ∧ o.ExactSet ∧ o.data = .set es ep t ∧ (∀ e ∈ es.toList, TxE P w e) ∧ (es.toList.map txE).Nodup ∧ (∀ k, S k = true ↔ k ∈ es.toList.map txE) ∧
    es.size < scanBound ∧ t.fits es.size = true ∧ es.size = n ∧ Ris t.place.toList ∧ (w.params.followText "set-order" = true ∨ t.led = true)

section
variable {P : Program} {w : World} {h h' : Heap} {a : Addr} {S : Str → Bool} {n : Nat}
theorem TxS.at (R : TxS P w h a S n) (k : ∀ o, h.get? a = some o → h'.get? a = some o) : TxS P w h' a S n := by
  obtain ⟨o, es, ep, t, ho, r⟩ := R
  exact ⟨o, es, ep, t, k o ho, r⟩
theorem tx_is {e : Int × Value} (g : TxE P w e) (k : Str) : (PySem.strKind P w).is k e.2 = true ↔ txE e = k := by
  obtain ⟨k0, t, h1, _⟩ := g
  have e0 : txE e = k0 := by unfold txE; rw [h1]
  rw [e0]
  constructor
  · intro q
    exact (PySem.strKind P w).inj e.2 _ _ (by rw [h1]; exact strKind_is _ _ _ _) q
  · rintro rfl
    rw [h1]
    exact strKind_is _ _ _ _
theorem tx_elems {l : List (Int × Value)} (g : ∀ e ∈ l, TxE P w e) : ElemsOf (PySem.strKind P w) l := fun e he => by
  obtain ⟨k, t, h1, h2⟩ := g e he
  exact ⟨⟨k, by rw [h1]; exact strKind_is _ _ _ _, h2⟩, by rw [h1]; rfl⟩
theorem tx_mem {l : List (Int × Value)} (g : ∀ e ∈ l, TxE P w e) (k : Str) : k ∈ l.map txE ↔ ∃ e ∈ l, (PySem.strKind P w).is k e.2 = true := by
  rw [List.mem_map]
  exact ⟨fun ⟨e, he, q⟩ => ⟨e, he, (tx_is (g e he) k).2 q⟩, fun ⟨e, he, q⟩ => ⟨e, he, (tx_is (g e he) k).1 q⟩⟩
theorem TxS.setOf (R : TxS P w h a S n) : h.SetOf (PySem.strKind P w) a S n := by
  obtain ⟨o, es, ep, t, ho, hx, hd, g, nd, hm, hb, hf, hn, _⟩ := R
  exact ⟨o, es, ep, t, ho, hx, hd, tx_elems g, fun k => (hm k).trans (tx_mem g k), hb, hf, hn⟩
end

section
variable {P : Program} {w : World} {A : Around} {E : Value → Shared → Prop} {s : Shared} {a : Addr} {S : Str → Bool} {n : Nat}
/-- storing the entries, laid anew where the table is too full -/
theorem tx_store {g : Bool → Sem Unit} (hg : ∀ (b : Bool) (s₁ : Shared) (Q' : Unit → Shared → Prop), Q' () s₁ → wpAny (model P w) A (g b) Q' E s₁)
    {o : Obj} {es : Array (Int × Value)} {ep : Nat} {t : SetTable} (ho : s.heap.get? a = some o) (hex : o.ExactSet) (hd : o.data = .set es ep t)
    {es1 : Array (Int × Value)} {t2 : SetTable} {S' : Str → Bool} (g1 : ∀ e ∈ es1.toList, TxE P w e) (nd1 : (es1.toList.map txE).Nodup) (m1 : ∀ k, S' k = true ↔ k ∈ es1.toList.map txE)
    (hb1 : es1.size < scanBound) (hf2 : t2.fits es1.size = true) (hr : Ris t2.place.toList) (hl : w.params.followText "set-order" = true ∨ t2.led = true) {wasDummy : Bool} {R : Option Bool → Shared → Prop}
    (hR : ∀ h', Heap.SameBut a s.heap h' → TxS P w h' a S' es1.size → R (some true) { s with heap := h' }) :
    wpAny (model P w) A (do
        storeSet a es1 t2
        if (!wasDummy && t2.tooFull) = true then do
            g (relayAll t2 es1 (SetTable.grown es1.size)).2.2
            storeSet a (relayAll t2 es1 (SetTable.grown es1.size)).1 (relayAll t2 es1 (SetTable.grown es1.size)).2.1
            pure (some true)
          else pure (some true)) R E s := by
  refine wpAny_bind (wpAny_storeSet_of ho hd ?_ (fits_of_scanBound hb1))
  have ho1 := PpSet.storeB_at (es' := es1) (t' := t2) ho hd
  have sb1 := Heap.SameBut.update s.heap a (Obj.putSet es1 t2)
  split
  · obtain ⟨pm, hf3, hr3, hl3⟩ : (relayAll t2 es1 (SetTable.grown es1.size)).1.toList.Perm es1.toList ∧ (relayAll t2 es1 (SetTable.grown es1.size)).2.1.fits (relayAll t2 es1 (SetTable.grown es1.size)).1.size = true ∧ Ris (relayAll t2 es1 (SetTable.grown es1.size)).2.1.place.toList ∧ (relayAll t2 es1 (SetTable.grown es1.size)).2.1.led = t2.led :=
      ⟨relayAll_perm _ _ _, relayAll_fits _ _ _, relayAll_ris _ _ _, relayAll_led _ _ _⟩
    generalize relayAll t2 es1 (SetTable.grown es1.size) = Z at pm hf3 hr3 hl3 ⊢
    obtain ⟨es2, t3, gave⟩ := Z
    dsimp only at pm hf3 hr3 hl3 ⊢
    have hsz : es2.size = es1.size := by rw [← Array.length_toList, pm.length_eq, Array.length_toList]
    refine wpAny_bind (hg _ _ _ ?_)
    refine wpAny_bind (wpAny_storeSet_of ho1 rfl ?_ (fits_of_scanBound (by rw [hsz]; exact hb1)))
    have ho2 := PpSet.storeB_at (es' := es2) (t' := t3) ho1 rfl
    refine wpAny_pure (hR _ (sb1.trans (Heap.SameBut.update _ a _)) ?_)
    exact ⟨_, es2, _, t3, ho2, hex, rfl, fun e he => g1 e (pm.mem_iff.mp he), (pm.map txE).nodup_iff.mpr nd1, fun k => (m1 k).trans (pm.map txE).mem_iff.symm, by rw [hsz]; exact hb1, hf3, hsz, hr3,
      hl.imp id fun z => by rw [hl3]; exact z⟩
  · exact wpAny_pure (hR _ sb1 ⟨_, es1, _, t2, ho1, hex, rfl, g1, nd1, m1, hb1, hf2, rfl, hr, hl⟩)

theorem tx_add_hashed {k : Str} {u : PySem.Tok} {Q : Bool → Shared → Prop} (R : TxS P w s.heap a S n) (room : n + 1 < scanBound)
    (hQ : ∀ h', Heap.SameBut a s.heap h' → TxS P w h' a (fun j => S j || decide (j = k)) (if S k = true then n else n + 1) → Q (!S k) { s with heap := h' }) :
    wpAny (model P w) A (setAddHashed a (.str k u) ((PySem.strKind P w).hash k)) Q E s := by
  obtain ⟨o, es, ep, t, ho, hex, hd, g, nd, hm, hb, hf, hn, hr, hl⟩ := R
  have hkey : (PySem.strKind P w).is k (.str k u) = true := strKind_is _ _ _ _
  have hsc : (Value.str k u).scannable = true := rfl
  have hel : ElemsOf (PySem.strKind P w) es.toList := tx_elems g
  unfold setAddHashed setAddHashedIn
  refine wpAny_holding (wpAny_bind (wpAny_setState_of ho hd hf ?_))
  dsimp only
  rw [byScan_of hsc hb hel]
  simp only [↓reduceIte]
  unfold setAddByScan
  refine wpAny_bind ?_
  refine wpAny_bind (wpAny_rule ?_)
  refine wpAny_bind (wpAny_setScan_of hkey ho hd hf hel ?_)
  cases hfi : List.findIdx? (fun e => (PySem.strKind P w).is k e.2) es.toList with
  | some j =>
    dsimp only
    obtain ⟨hj, pj, _⟩ := List.findIdx?_eq_some_iff_getElem.mp hfi
    have hSk : S k = true := (hm k).2 ((tx_mem (P := P) (w := w) g k).2 ⟨es.toList[j], List.getElem_mem hj, pj⟩)
    refine wpAny_pure (wpAny_pure ?_)
    have q := hQ s.heap (Heap.SameBut.refl a s.heap) ⟨o, es, ep, t, ho, hex, hd, g, nd, fun i => by
      rw [Bool.or_eq_true, decide_eq_true_eq, ← hm i]
      exact ⟨fun z => z.elim id (fun e => e ▸ hSk), .inl⟩, hb, hf, by rw [if_pos hSk]; exact hn, hr, hl⟩
    rw [hSk] at q
    exact q
  | none =>
    dsimp only
    have hnk : k ∉ es.toList.map txE := fun z => by
      obtain ⟨e, he, q⟩ := (tx_mem (P := P) (w := w) g k).1 z
      have c := List.findIdx?_eq_none_iff.mp hfi e he
      rw [q] at c
      cases c
    have hSk : S k = false := Bool.eq_false_iff.mpr fun q => hnk ((hm k).1 q)
    have hgw : ∀ (b : Bool) {s₁ : Shared} {Q' : Unit → Shared → Prop}, Q' () s₁ → wpAny (model P w) A (match b with | true => rule "set.scan.the-table-gave-way" | false => pure ()) Q' E s₁ :=
      fun b s₁ Q' q => by cases b <;> first | exact wpAny_pure q | exact wpAny_rule q
    have pm := layNew_perm t es ((PySem.strKind P w).hash k) (.str k u)
    have hf1 := layNew_fits t es ((PySem.strKind P w).hash k) (.str k u)
    have hr1 := layNew_ris t es ((PySem.strKind P w).hash k) (.str k u) hr
    have hl1 := layNew_led t es ((PySem.strKind P w).hash k) (.str k u)
    generalize layNew t es ((PySem.strKind P w).hash k) (.str k u) = Z at pm hf1 hr1 hl1 ⊢
    obtain ⟨es1, t1, wasDummy, gave⟩ := Z
    dsimp only at pm hf1 hr1 hl1 ⊢
    rw [Array.toList_push] at pm
    have pc : es1.toList.Perm (((PySem.strKind P w).hash k, Value.str k u) :: es.toList) := pm.trans (List.perm_append_singleton _ _)
    have pk : (es1.toList.map txE).Perm (k :: es.toList.map txE) := pc.map txE
    have g1 : ∀ e ∈ es1.toList, TxE P w e := fun e he => by
      rcases List.mem_cons.mp (pc.mem_iff.mp he) with z | z
      · rw [z]; exact ⟨k, u, rfl, rfl⟩
      · exact g e z
    have nd1 : (es1.toList.map txE).Nodup := pk.nodup_iff.mpr (List.nodup_cons.mpr ⟨hnk, nd⟩)
    have m1 : ∀ i, (S i || decide (i = k)) = true ↔ i ∈ es1.toList.map txE := fun i => by
      rw [Bool.or_eq_true, decide_eq_true_eq, hm i, pk.mem_iff, List.mem_cons]
      exact Or.comm
    have hsz : es1.size = n + 1 := by rw [← Array.length_toList, pc.length_eq, List.length_cons, Array.length_toList, hn]
    have hb1 : es1.size < scanBound := by rw [hsz]; exact room
    have hled : w.params.followText "set-order" = true ∨ t1.led = true := hl.imp id fun z => by rw [hl1]; exact z
    have fin : ∀ h', Heap.SameBut a s.heap h' → TxS P w h' a (fun j => S j || decide (j = k)) es1.size → Q true { s with heap := h' } := fun h' sb r => by
      have q := hQ h' sb
      rw [hSk] at q
      rw [hsz] at r
      exact q r
    refine wpAny_bind (hgw _ ?_)
    split
    · refine wpAny_bind ?_
      rw [hashByValue_scannable 8 hsc]
      refine wpAny_pure ?_
      refine tx_store ?_ ho hex hd g1 nd1 m1 hb1 ?_ ?_ ?_ ?_
      · intro b s₁ Q' q; cases b <;> first | exact wpAny_pure q | exact wpAny_rule q
      · first | (split <;> first | exact hf1 | exact SetTable.fits_plain_off hf1) | exact hf1
      · first | (split <;> exact hr1) | exact hr1
      · first | (split <;> exact hled) | exact hled
      · intro h' sb r; dsimp only; exact wpAny_pure (fin h' sb r)
    · refine wpAny_bind (wpAny_pure ?_)
      simp only [↓reduceIte]
      refine tx_store ?_ ho hex hd g1 nd1 m1 hb1 hf1 hr1 hled ?_
      · intro b s₁ Q' q; cases b <;> first | exact wpAny_pure q | exact wpAny_rule q
      · intro h' sb r; dsimp only; exact wpAny_pure (fin h' sb r)

theorem tx_add {k : Str} {u : PySem.Tok} {Q : Value → Shared → Prop} (R : TxS P w s.heap a S n) (room : n + 1 < scanBound)
    (hQ : ∀ h', Heap.SameBut a s.heap h' → TxS P w h' a (fun j => S j || decide (j = k)) (if S k = true then n else n + 1) → Q .none { s with heap := h', toks := s.toks + 1 }) :
    wpAny (model P w) A (call (.builtin "set.add") [.ref a, .str k u]) Q E s := by
  have hS : s.heap.SetOf (PySem.strKind P w) a S n := R.setOf
  refine wpAny_call_entry F.slot_set_add hS.typeIs F.entry_set_add ?_ (F.args_set_add_2 _ _)
  unfold Builtin.«set.add» Builtin.Frozenset.oneOther
  simp only [List.isEmpty_nil, bind_assoc]
  unfold Builtin.Frozenset.addrOf setAdd
  refine wpAny_bind (wpAny_pure ?_)
  try dsimp only
  refine wpAny_bind (wpAny_pure ?_)
  try dsimp only
  refine wpAny_bind ?_
  refine wpAny_holding ?_
  refine wpAny_bind ((PySem.strKind P w).pyHash (strKind_is _ _ _ _) ?_)
  refine tx_add_hashed (s := { s with toks := s.toks + 1 }) R room fun h' sb r => ?_
  show wpAny _ _ (ret Value.none) _ _ _
  exact wpAny_pure ⟨_, rfl, hQ h' sb r⟩
theorem tx_fresh {h : Heap} (P : Program) (w : World) : TxS P w (h.push { cls := .type "set", dict := none, data := .set #[] 0 (.fresh 0 0 (!w.params.followText "set-order")) }) h.objs.size (fun _ => false) 0 :=
  ⟨_, #[], 0, _, Heap.get?_push_size _ rfl, ⟨rfl, rfl, rfl⟩, rfl, (fun e he => by simp at he), (by simp), (fun k => by simp), (by decide), (by rfl), rfl, List.Pairwise.nil, by
    cases w.params.followText "set-order"
    · exact .inr rfl
    · exact .inl rfl⟩
/-- sorted(such a set) -/
theorem tx_sorted {Q : Value → Shared → Prop} (R : TxS P w s.heap a S n) (hh : A.handled = none) (h64 : n < 64)
    (hQ : ∀ s' p (out : Array Value) (c : Nat) (ss : List Str), (∀ b o, s.heap.get? b = some o → s'.heap.get? b = some o) → s'.gens = s.gens → s'.os = s.os → s.heap.objs.size ≤ p →
      s'.heap.get? p = some (seqObj "list" out c) → StrsAre out.toList ss → sortedS ss = true → ss.Nodup → (∀ k, k ∈ ss ↔ S k = true) → ss.length = n → Q (.ref p) s') :
    wpAny (model P w) A (call (.builtin "sorted") [.ref a]) Q E s := by
  obtain ⟨o, es, ep, t, ho, hex, hd, g, nd, hm, hb, hf, hn, hr, hl⟩ := R
  refine Calls.call_function_entry kind_sorted plain_sorted entry_sorted (args_sorted1 _) ?_
  unfold Builtin.«sorted»
  refine wpAny_bind (m := checkCount "sorted" 1 1 _) (wpAny_pure ?_)
  refine wpAny_bind (collect_set (A := A.in1) hh ⟨o, ho, hex.1, hd⟩ hf hb hr hl fun s1 vs k1 hz g1 o1 pm => ?_)
  have hvl : vs.length = n := by rw [pm.length_eq, List.length_map, Array.length_toList]; exact hn
  have hst : ∀ v ∈ vs, ∃ k t, v = Value.str k t := fun v hv => by
    obtain ⟨e, he, q⟩ := List.mem_map.mp (pm.mem_iff.mp hv)
    obtain ⟨k, t, h1, _⟩ := g e he
    exact ⟨k, t, by rw [← q]; exact h1⟩
  have hI : StrsAre vs (vs.map strOf) := strsAre_map vs hst
  have pk : (vs.map strOf).Perm (es.toList.map txE) := by
    have q := pm.map strOf
    rw [List.map_map] at q
    refine q.trans (List.Perm.of_eq (List.map_congr_left fun e he => ?_))
    obtain ⟨k, t, h1, _⟩ := g e he
    show strOf e.2 = txE e
    unfold txE
    rw [h1]
    rfl
  refine wpAny_bind (wpAny_newList ?_ (by rw [hvl, sizeLine_eq]; omega))
  have hoL : (s1.heap.push (seqObj "list" vs.toArray 0)).get? s1.heap.objs.size = some (seqObj "list" vs.toArray 0) := Heap.get?_push_size _ rfl
  refine wpAny_bind (wpAny_holding (wpAny_call_entry slot_list_sort ⟨_, hoL, rfl⟩ entry_list_sort (list_sort_treeK strKind_oneLt hoL hI.keysOf (fun v₁ v₂ rest e => keyKind_strs (by rw [← e]; exact hI)) (by rw [hvl]; exact h64) fun st' hp hs => ⟨_, rfl, ?_⟩) (args_list_sort _)))
  obtain ⟨ss', a1, a2, a3⟩ := sorted_out_str hI hp hs
  obtain ⟨c, hc⟩ := sortedHeap_at (vs := vs) (out := (arrOf st').map (·.2)) hoL
  have pn : ss'.Perm (es.toList.map txE) := a2.trans pk
  refine wpAny_pure ⟨_, rfl, hQ _ s1.heap.objs.size _ c ss' (fun b u e => ?_) g1 o1 hz hc a1 a3 (pn.nodup_iff.mpr nd) (fun k => by rw [pn.mem_iff, ← hm k]) ?_⟩
  · have q := k1 b u e
    have hlt := Heap.lt_size q
    show (sortedHeap (s1.heap.push (seqObj "list" vs.toArray 0)) s1.heap.objs.size vs _).get? b = some u
    rw [sortedHeap_old (Nat.ne_of_lt hlt) (by rw [size_push']; exact Nat.lt_succ_of_lt hlt)]
    exact Heap.get?_push_of_some _ q
  · rw [pn.length_eq, List.length_map, Array.length_toList]; exact hn
end
/-! ### as tracked things -/
/-- the set of texts at a -/
def TxO (P : Program) (w : World) (a : Addr) (S : Str → Bool) (n : Nat) : HO := .ext fun h => TxS P w h a S n
theorem txo_new {w : World} {P : Program} {H : Hp} {h : Heap} {a : Addr} {S : Str → Bool} {n : Nat} (R : TxS P w h a S n) : ObjOk P w H h a (TxO P w a S n) := by
  have ⟨o, _, _, _, ho, _⟩ := R
  exact ⟨R, ⟨o, ho⟩, fun h1 h2 p k => TxS.at p k⟩
section
variable {X : Cx}
theorem txo_get {pins : List (Addr × Obj)} {σ : L2.St} {H : Hp} {s : Shared} {a : Addr} {S : Str → Bool} {n : Nat} (I : Inv X pins σ H s) (ha : H a = some (TxO X.prog X.w a S n)) : TxS X.prog X.w s.heap a S n := (I.hok a _ ha).1
theorem txo_add {pins : List (Addr × Obj)} {σ : L2.St} {H : Hp} {s : Shared} {E : Value → Shared → Prop} {D : Addr} {S : Str → Bool} {n : Nat} {y : Str} {u : PySem.Tok} {Q : Value → Shared → Prop} (I : Inv X pins σ H s) (hD : H D = some (TxO X.prog X.w D S n)) (room : n + 1 < scanBound)
    (h : ∀ s', Inv X pins σ (upd H D (TxO X.prog X.w D (fun j => S j || decide (j = y)) (if S y = true then n else n + 1))) s' → Q .none s') : wpAny (model X.prog X.w) X.A (call (.builtin "set.add") [.ref D, .str y u]) Q E s := by
  refine tx_add (txo_get I hD) room fun h' sb new => ?_
  have he : ∃ u, h'.get? D = some u := by
    have ⟨o, _, _, _, ho, _⟩ := new
    exact ⟨o, ho⟩
  exact h _ (I.write (e := D) (t' := s.toks + 1) (by rw [hD]; trivial) (.inl rfl) (fun b u hb hu => (sb.2 b hb).trans hu) he (txo_new new))
/-- the comprehension of texts, over what wi gives -/
def tScT (P : Program) (w : World) (wi : TI) (g : TG) (tt : TT) (te : TE) (vs : List Nat) : TE := fun σ H Q => wi σ H fun J H1 => ∀ D, H1 D = none → ∃ W : Nat → Nat → Hp → Prop, (∃ m, W 0 m (upd H1 D (TxO P w D (fun _ => false) 0))) ∧ ∀ i m H, W i m H →
  (J.stop i H ∧ Q (.ref D) H) ∨ (J.go i H ∧ ∃ Nx : Hp → Prop, (∀ H', Nx H' → ∃ m', m' < m ∧ W (i + 1) m' H') ∧ ∀ x H', J.yld i H x H' → g x (wipe σ vs) H' fun σ2 H2 => wipe σ2 vs = wipe σ vs ∧ tt σ2 H2 fun b H3 =>
    if b = true then te σ2 H3 fun y H4 => ∃ (c : Str) (S : Str → Bool) (n : Nat), y = .str c ∧ H4 D = some (TxO P w D S n) ∧ n + 1 < scanBound ∧ Nx (upd H4 D (TxO P w D (fun j => S j || decide (j = c)) (if S c = true then n else n + 1))) else Nx H3)
theorem sct_core {pins : List (Addr × Obj)} {s : Shared} {σ : L2.St} {H : Hp} {Q : VK} {elt tg iter : Expr} {ifs : List Expr} {scope : Scope} {own : List (PySem.Str × Nat)} {pos pos' : Pos} {wi : TI} {g : TG} {tt : TT} {te : TE} {use : Option (Value → Sem Unit)} {Qf : Value → Shared → Prop}
    (hc : X.calm = true) (hN : X.N.Nodup) (I : Inv X pins σ H s) (hi : PI X tg iter wi) (ok : BlkOk X.N X.env.scope scope own)
    (hg : ∀ (s : Shared) (H : Hp) (C : Addr) (cl : List (PySem.Str × Addr)) (fp : List Addr), PG (X.blk s H scope (compEnvC scope cl C X.env) fp) tg g) (ht : ∀ (s : Shared) (H : Hp) (C : Addr) (cl : List (PySem.Str × Addr)) (fp : List Addr), PTs (X.blk s H scope (compEnvC scope cl C X.env) fp) ifs tt)
    (he : ∀ (s : Shared) (H : Hp) (C : Addr) (cl : List (PySem.Str × Addr)) (fp : List Addr), PE (X.blk s H scope (compEnvC scope cl C X.env) fp) elt te) (hs : ∀ x, foldedSetIterable iter X.env x = pure x)
    (h : tScT X.prog X.w wi g tt te (own.map (·.2)) σ H Q)
    (hRR : ∀ D C s' m H', Inv X pins σ H' s' → Q (.ref D) H' → s'.heap.Ns C m → FpOk X pins H' C → compPost (model X.prog X.w) X.A X.xe use Qf (.ref D) C (.ok .next) s') :
    wpAny (model X.prog X.w) X.A (comprehension (.SetComp elt [⟨tg, iter, ifs, 0⟩] scope pos) scope X.env pos' (newSet (.type "set")) false (eval iter X.env) use) Qf X.xe s := by
  have hfree : ∀ y ∈ scope.names, y.2 = .free → ∃ c, X.env.cells.lookup y.1 = some c := fun y hy e => by
    rcases ok.free y hy e with k | k
    · exact I.ok.has _ (.inl k)
    · exact I.ok.has _ (.inr k)
  refine wpAny_comprehension_free (use := use) rfl hs (closure_ok hfree) ok.kind (fun y hy e => by rw [ok.uniq y hy, e])
    (thn (hi.run pins s σ H _ I h) fun xv s1 hx => thn hx fun itv s2 h2 => ?_)
  obtain ⟨it, fp, tn, J, H2, e, I2, T, st2, f2, q⟩ := h2
  subst e
  refine PpSet.newSet_ok (newEnv_comp ?_)
  generalize hD : s2.heap.objs.size = D
  have hDn : H2 D = none := I2.hok.fresh (Nat.le_of_eq hD)
  obtain ⟨W, ⟨m0, w0⟩, turn⟩ := q D hDn
  -- the new list
  generalize hs3 : ({ s2 with heap := s2.heap.push { cls := .type "set", dict := none, data := .set #[] 0 (.fresh 0 0 (!X.w.params.followText "set-order")) } } : Shared) = s3
  have I3 : Inv X pins σ (upd H2 D (TxO X.prog X.w D (fun _ => false) 0)) s3 := by
    rw [← hs3]
    refine I2.laid (t' := s2.toks) (fun b o e => Heap.get?_push_of_some _ e) (Nat.le_of_eq hD) ?_
    rw [← hD]
    exact txo_new (tx_fresh X.prog X.w)
  have h3 : s3.heap = s2.heap.push { cls := .type "set", dict := none, data := .set #[] 0 (.fresh 0 0 (!X.w.params.followText "set-order")) } := by rw [← hs3]
  have sz : ∀ b ∈ fp, b < s2.heap.objs.size := fun b hb => by
    obtain ⟨o, e, _⟩ := T.obj _ _ st2 b hb
    exact Heap.lt_size e
  have f3 : ∀ b ∈ fp, FpOk X pins (upd H2 D (TxO X.prog X.w D (fun _ => false) 0)) b ∧ b < s3.heap.objs.size := fun b hb => by
    have hlt := sz b hb
    refine ⟨⟨?_, (f2 b hb).2⟩, by rw [h3, Heap.size_push]; exact Nat.lt_succ_of_lt hlt⟩
    rw [upd_ne (by rw [← hD]; exact Nat.ne_of_lt hlt)]
    exact (f2 b hb).1
  have st3 : tn 0 s3.heap := T.keep _ _ _ st2 fun b _ o e => by rw [h3]; exact Heap.get?_push_of_some _ e
  have I4 := block_start I3 ok hN f3
  have pg := hg s3 (upd H2 D (TxO X.prog X.w D (fun _ => false) 0)) s3.heap.objs.size (cellsFrom (s3.heap.objs.size + 1) scope.names (cloFrom X.env.cells scope.names [])) fp
  have pt := ht s3 (upd H2 D (TxO X.prog X.w D (fun _ => false) 0)) s3.heap.objs.size (cellsFrom (s3.heap.objs.size + 1) scope.names (cloFrom X.env.cells scope.names [])) fp
  have pe := he s3 (upd H2 D (TxO X.prog X.w D (fun _ => false) 0)) s3.heap.objs.size (cellsFrom (s3.heap.objs.size + 1) scope.names (cloFrom X.env.cells scope.names [])) fp
  show codeAny _ _ (.compStart (.SetComp elt [⟨tg, iter, ifs, 0⟩] scope pos) 0 (.ref it) (.ref D) (compEnvC scope (cellsFrom (s3.heap.objs.size + 1) scope.names (cloFrom X.env.cells scope.names [])) s3.heap.objs.size X.env)) (compPost (model X.prog X.w) X.A X.xe use Qf (.ref D) s3.heap.objs.size) { s3 with heap := pushCells (s3.heap.push { cls := .type "dict", data := .dict #[] }) scope.names }
  have nfp : ∀ b ∈ fp, (upd H2 D (TxO X.prog X.w D (fun _ => false) 0)) b = none := fun b hb => (f3 b hb).1.1
  generalize hce : compEnvC scope (cellsFrom (s3.heap.objs.size + 1) scope.names (cloFrom X.env.cells scope.names [])) s3.heap.objs.size X.env = ce at I4 pg pt pe ⊢
  have cL : ce.locals = s3.heap.objs.size := by subst hce; rfl
  generalize hH3 : upd H2 D (TxO X.prog X.w D (fun _ => false) 0) = H3 at I3 I4 pg pt pe w0 nfp f3
  generalize hs4 : ({ s3 with heap := pushCells (s3.heap.push { cls := .type "dict", data := .dict #[] }) scope.names } : Shared) = s4 at I4 ⊢
  have st4 : tn 0 s4.heap := T.keep _ _ _ st3 fun b _ o e => by rw [← hs4]; exact pushCells_keeps _ _ _ _ (Heap.get?_push_of_some _ e)
  have stat : ∀ {σ' : L2.St} {H' : Hp} {s' : Shared}, Inv (X.blk s3 H3 scope ce fp) [] σ' H' s' → (∀ b ∈ fp, H' b = none) → ∀ b ∈ fp, FpOk (X.blk s3 H3 scope ce fp) [] H' b := fun {σ' H' s'} I' hn b hb =>
    ⟨hn b hb, (I'.ok.exf b hb).1, I'.ok.exfs b hb, .inl hb, fun x c e => (I'.ok.exf b hb).2 x c e, fun p hp => absurd (show p ∈ ([] : List (Addr × Obj)) ++ [] from hp) (by simp)⟩
  have loop : codeAny (model X.prog X.w) X.A (.compLoop (.SetComp elt [⟨tg, iter, ifs, 0⟩] scope pos) 0 (.ref it) (.ref D) ce) (compPost (model X.prog X.w) X.A X.xe use Qf (.ref D) s3.heap.objs.size) s4 := by
    refine PpSet.compLoopS_any (fun n s' => ∃ i H', Inv (X.blk s3 H3 scope ce fp) [] (wipe σ (own.map (·.2))) H' s' ∧ tn i s'.heap ∧ (∀ b ∈ fp, H' b = none) ∧ W i n H') ?_ m0 ⟨0, H3, I4, st4, nfp, w0⟩
    rintro n s5 ⟨i, H5, I5, st5, n5, w5⟩
    rcases turn i n H5 w5 with ⟨stop, qq⟩ | ⟨go, Nx, hNx, step⟩
    · have td := T.done (X.blk s3 H3 scope ce fp) rfl rfl rfl hc i [] s5 _ H5 (fun _ _ => False) I5 (stat I5 n5) st5 stop
      refine thnF td fun r s6 ⟨hr, I6⟩ => ?_
      subst hr
      -- back in the def's context
      have I7 : Inv X pins σ H5 s6 := I3.call' (ch := fp) I6.os I6.base I6.hok I6.bare fun b hb => ⟨(f3 b hb).1.2.2.2.1, (f3 b hb).1.2.1, (f3 b hb).1.2.2.2.2.1, (f3 b hb).1.2.2.2.2.2⟩
      have nC : H5 s3.heap.objs.size = none := by
        have z : H5 ce.locals = none := I6.free
        rw [cL] at z
        exact z
      obtain ⟨m, hn, _⟩ := I6.loc
      have hn : s6.heap.Ns ce.locals m := hn
      rw [cL] at hn
      exact hRR D s3.heap.objs.size s6 m H5 I7 qq hn (I3.fpOk (Nat.le_refl _) nC)
    · have ti := T.item (X.blk s3 H3 scope ce fp) rfl rfl rfl hc i [] s5 _ H5 (fun _ _ => False) I5 (stat I5 n5) st5 go
      refine thnF ti fun r s6 ⟨u, hr, h6⟩ => ?_
      subst hr
      refine thnF h6 fun _ s7 ⟨x, H7, I7, r7, y7, st7, n7⟩ => ?_
      have I7' := I7.pinned (stat I7 n7) (T.obj _ _ st7)
      refine thnF (pg.run _ s7 _ H7 x u _ I7' r7 (step x H7 y7)) fun _ s8 ⟨σ8, H8, I8, hw8, q8⟩ => ?_
      refine thnF (pt.run _ s8 σ8 H8 _ I8 q8) fun b s9 ⟨H9, I9, q9⟩ => ?_
      -- the turn's end
      have fin : ∀ {s' : Shared} {H' : Hp}, Inv (X.blk s3 H3 scope ce fp) ([] ++ pinsAt fp s7.heap) σ8 H' s' → Nx H' → ∃ m, m < n ∧ ∃ i H', Inv (X.blk s3 H3 scope ce fp) [] (wipe σ (own.map (·.2))) H' s' ∧ tn i s'.heap ∧ (∀ b ∈ fp, H' b = none) ∧ W i m H' := fun {s' H'} I' nx => by
        obtain ⟨m', hm, w'⟩ := hNx H' nx
        have pin' : ∀ b ∈ fp, ∀ o, s7.heap.get? b = some o → s'.heap.get? b = some o ∧ H' b = none := fun b hb o e =>
          let z := I'.pin (b, o) (List.mem_append_right _ (List.mem_append_right _ (mem_pinsAt hb e)))
          ⟨z.1, z.2.1⟩
        have hl : (wipe σ (own.map (·.2))).length = σ8.length := by rw [← hw8, wipe_length]
        refine ⟨m', hm, i + 1, H', (I'.unpinned (pins := [])).weak hl (fun j v e => ?_), T.keep _ _ _ st7 fun b hb o e => (pin' b hb o e).1, fun b hb => ?_, w'⟩
        · rw [← hw8] at e
          exact (wipe_some e).1
        · obtain ⟨o, e, _⟩ := T.obj _ _ st7 b hb
          exact (pin' b hb o e).2
      cases b with
      | false =>
        simp only [Bool.false_eq_true, if_false] at q9 ⊢
        exact fin I9 q9
      | true =>
        simp only [if_true] at q9 ⊢
        refine thnF (pe.run _ s9 σ8 H9 _ I9 q9) fun z s10 ⟨yv, H10, I10, r10, cb, S0, n0, ey, hD10, hz10, nx⟩ => ?_
        subst ey
        obtain ⟨tk, rfl⟩ : ∃ tk, z = Value.str cb tk := r10
        exact txo_add (X := X.blk s3 H3 scope ce fp) I10 hD10 hz10 fun s11 I11 => fin I11 nx
  exact PpSet.codeAny_compStart_set loop (T.self X.A 0 _ _ _ st4 loop)
theorem pe_scT {elt tg iter : Expr} {ifs : List Expr} {scope : Scope} {own : List (PySem.Str × Nat)} {pos : Pos} {wi : TI} {g : TG} {tt : TT} {te : TE} (hc : X.calm = true) (hN : X.N.Nodup) (hi : PI X tg iter wi) (ok : BlkOk X.N X.env.scope scope own)
    (hg : ∀ (s : Shared) (H : Hp) (C : Addr) (cl : List (PySem.Str × Addr)) (fp : List Addr), PG (X.blk s H scope (compEnvC scope cl C X.env) fp) tg g) (ht : ∀ (s : Shared) (H : Hp) (C : Addr) (cl : List (PySem.Str × Addr)) (fp : List Addr), PTs (X.blk s H scope (compEnvC scope cl C X.env) fp) ifs tt)
    (he : ∀ (s : Shared) (H : Hp) (C : Addr) (cl : List (PySem.Str × Addr)) (fp : List Addr), PE (X.blk s H scope (compEnvC scope cl C X.env) fp) elt te) (hs : ∀ x, foldedSetIterable iter X.env x = pure x := by intro _; rfl) :
    PE X (.SetComp elt [⟨tg, iter, ifs, 0⟩] scope pos) (tScT X.prog X.w wi g tt te (own.map (·.2))) := by
  refine ⟨fun pins s σ H Q I h => ?_⟩
  rw [PpSet.eval_SetComp]
  refine sct_core hc hN I hi ok hg ht he hs h fun D C s' m H' I' q hn ⟨f0, f1, f2, f3, f4, f5⟩ => ⟨m, hn, fun h'' sb => ?_⟩
  exact ⟨.ref D, H', I'.turned (t' := s'.toks) (fun b o hb e => (sb.2 b hb).trans e) f0 f1 f3 f4 f5, rfl, q⟩
/-- sorted of a set of texts, fewer than 64 -/
def rSortTx (P : Program) (w : World) : List V → Hp → VK → Prop := fun vs H Q => ∃ (a : Addr) (S : Str → Bool) (n : Nat), vs = [V.ref a] ∧ H a = some (TxO P w a S n) ∧ n < 64 ∧
  ∀ (ss : List Str) (p : Addr), sortedS ss = true → ss.Nodup → (∀ k, k ∈ ss ↔ S k = true) → ss.length = n → H p = none → Q (.ref p) (upd H p (.lst (ss.map V.str)))
theorem cr_sortTx (hc : X.calm = true) : CallR X (.builtin "sorted") (rSortTx X.prog X.w) := by
  intro pins s σ H vs us Q I r h
  obtain ⟨a, S, n, rfl, ha, h64, q⟩ := h
  rw [Vals.ref1 r]
  refine tx_sorted (txo_get I ha) (I.ok.hd hc) h64 fun s' p out c ss k g o hp hg hi hs hd hm hl => ?_
  have hlen : (ss.map V.str).length ≤ sizeLine := by rw [List.length_map, hl, sizeLine_eq]; omega
  have hn : H p = none := I.hok.fresh hp
  have J : Inv X pins σ (upd H p (.lst (ss.map V.str))) { s with heap := s'.heap, gens := s'.gens, drawn := s'.drawn, toks := s'.toks } :=
    I.call (ch := []) (Un.laid k hp hn) (I.hok.laid k hp ⟨hlen, out.toList, c, vals_of_strs hi, hg⟩) (by rw [g]; exact I.bare) (fun _ z => nomatch z)
  have e : s' = { s with heap := s'.heap, gens := s'.gens, drawn := s'.drawn, toks := s'.toks } := by
    cases s'
    cases s
    cases o
    rfl
  rw [e]
  exact ⟨.ref p, _, J, rfl, q ss p hs hd hm hl hn⟩
end
section
variable {P : Program} {w : World} {J : It} {n : Nat} {G : Hp → Prop} {Y : Nat → Hp → V → Hp → Prop}
/-- over any walk: the set of what is taken, turn by turn -/
theorem sct_it (wk : Walk J n G Y) {g : TG} {tt : TT} {te : TE} {vs : List Nat} {σ : L2.St} {H1 : Hp} {D : Addr} {Qd : Hp → Prop} (Pv : Nat → Hp → Prop) (h0 : Pv 0 (upd H1 D (TxO P w D (fun _ => false) 0))) (hG : ∀ i H, i ≤ n → Pv i H → G H)
    (hs : ∀ i x H H', i < n → Pv i H → Y i H x H' → g x (wipe σ vs) H' fun σ2 H2 => wipe σ2 vs = wipe σ vs ∧ tt σ2 H2 fun b H3 =>
      if b = true then te σ2 H3 fun y H4 => ∃ (c : Str) (S : Str → Bool) (n : Nat), y = .str c ∧ H4 D = some (TxO P w D S n) ∧ n + 1 < scanBound ∧ Pv (i + 1) (upd H4 D (TxO P w D (fun j => S j || decide (j = c)) (if S c = true then n else n + 1))) else Pv (i + 1) H3) (hd : ∀ H, Pv n H → Qd H) :
    ∃ W : Nat → Nat → Hp → Prop, (∃ m, W 0 m (upd H1 D (TxO P w D (fun _ => false) 0))) ∧ ∀ i m H, W i m H →
      (J.stop i H ∧ Qd H) ∨ (J.go i H ∧ ∃ Nx : Hp → Prop, (∀ H', Nx H' → ∃ m', m' < m ∧ W (i + 1) m' H') ∧ ∀ x H', J.yld i H x H' → g x (wipe σ vs) H' fun σ2 H2 => wipe σ2 vs = wipe σ vs ∧ tt σ2 H2 fun b H3 =>
        if b = true then te σ2 H3 fun y H4 => ∃ (c : Str) (S : Str → Bool) (n : Nat), y = .str c ∧ H4 D = some (TxO P w D S n) ∧ n + 1 < scanBound ∧ Nx (upd H4 D (TxO P w D (fun j => S j || decide (j = c)) (if S c = true then n else n + 1))) else Nx H3) := by
  refine ⟨fun i m H => m = n - i ∧ i ≤ n ∧ Pv i H, ⟨n, rfl, Nat.zero_le _, h0⟩, fun i m H ⟨hm, hi, p⟩ => ?_⟩
  rcases Nat.lt_or_eq_of_le hi with hlt | rfl
  · exact .inr ⟨wk.goes i H hlt (hG i H hi p), Pv (i + 1), fun H' p' => ⟨n - (i + 1), by omega, rfl, hlt, p'⟩, fun x H' y => hs i x H H' hlt p (wk.yields i H x H' hlt (hG i H hi p) y)⟩
  · exact .inl ⟨wk.stops H (hG _ H hi p), hd H p⟩
end
end El

set_option Elab.async false
set_option linter.all false
set_option maxRecDepth 100000
set_option maxHeartbeats 4000000
/-! Own words: a written dict of texts, asked for a key that it has. -/
namespace El
open PySem PySem.Spec PyProof.Rows L2
theorem kd_of {K : PySem.W.Frag} {w : World} {a : Addr} {ks : List Str} {z v : Str} {t : PySem.Tok} (h : He.dicW K a = some (He.keysIn w.params ks)) (e : PySem.W.nsIn K a z = some (some (.str v t))) : KDct K w a z (.str v) := by
  obtain ⟨es, n, D⟩ := He.dicW_ok (w := w) h
  exact ⟨es, n, _, D.at_, D.lit, e, ⟨t, rfl⟩⟩
theorem e_xD {X : Cx} {a b : Expr} {ta tb : TE} {pos : Pos} (K : PySem.W.Frag) (w : World) (ha : PE X a ta) (hb : PE X b tb) (hs : PlainIx b := by intro _ _; rfl) (hK : X.K = K := by rfl) (hw : X.w = w := by rfl) : PE X (.Subscript a b pos) (tOp (rIxD K w) ta tb) := by
  subst hK
  subst hw
  exact pe_ix ix_kdict ha hb hs
end El

set_option Elab.async false
set_option linter.all false
set_option maxRecDepth 100000
set_option maxHeartbeats 4000000
/-! Own words: operators of own classes with a text, t[::-1] of a tuple. -/
namespace El
open PySem PySem.Spec PyProof.Rows L2
/-! ### a op z, a of the class at C, z a text -/
section
variable {X : Cx} {CX : CXT} {k : Nat} {C f : Addr} {fd : FuncData} {ps : List Str} {sp : Sp} {E : L2.St → XK} {op : Operator} {a b : Expr} {ta tb : TE} {pos : Pos}
def tTxtS (C : Addr) (sp : Sp) (E : L2.St → XK) (ta tb : TE) : TE := fun σ H Q => ta σ H fun x H1 => tb σ H1 fun y H2 => ∃ a dx fs z, x = .ref a ∧ y = .str z ∧ H2 a = some (.ins C dx fs) ∧ sp [.ref a, .str z] H2 Q (E σ)
theorem run_opS {pins : List (Addr × Obj)} {σ : L2.St} {H : Hp} {s : Shared} {Q : VK} {y a : Addr} {z : Str} {t : PySem.Tok} (c : OpT X.K C f op "str") (F : FnOk X.prog X.w X.K X.mg X.base CX k f fd ps sp) (hr : Room k X.A) (hb : Binds X.K fd ps []) (hx : PassesAt CX X σ (E σ)) (I : Inv X pins σ H s)
    {dx : Addr} {fs : List (Str × V)} (ea : H a = some (.ins C dx fs)) (q : sp [.ref a, .str z] H Q (E σ)) : wpAny (model X.prog X.w) X.A (binaryOp op (.ref a) (.str z t)) (EP X pins σ Q) X.xe s := by
  obtain ⟨m, fr⟩ := I.fr
  obtain ⟨mA, O, _⟩ := ins_get I.hok ea
  obtain ⟨od, J, _⟩ := O.look
  obtain ⟨rc, hr1, hr2⟩ := c.hr
  obtain ⟨fo, h1⟩ := c.h1
  obtain ⟨ro, h2⟩ := c.h2
  refine PySem.W.ksp_binT fr I.ok.mod.kin J (T := "str") rfl c.c.sf c.c.at_ c.c.fn hr1 hr2 h1 h2 c.sub ?_
  exact wpAny_mono (run_fnS (us := [.ref a, .str z t]) (vs := [.ref a, .str z]) F hr hb hx I (.cons rfl (.cons ⟨t, rfl⟩ .nil)) q) (fun u' s' h' => cmpBack_of h') fun _ _ z => z
theorem pe_bopTS (c : OpT X.K C f op "str") (F : FnOk X.prog X.w X.K X.mg X.base CX k f fd ps sp) (hr : Room k X.A) (hb : Binds X.K fd ps []) (hx : ∀ σ, PassesAt CX X σ (E σ)) (ha : PE X a ta) (hb2 : PE X b tb) : PE X (.BinOp a op b pos) (tTxtS C sp E ta tb) := by
  refine ⟨fun pins s σ H Q I h => wpAny_BinOp (thn (ha.run pins s σ H _ I h) fun v s1 ⟨x, H1, I1, rx, q1⟩ => thn (hb2.run pins s1 σ H1 _ I1 q1) fun u s2 ⟨y, H2, I2, ry, a, dx, fs, z, ex, ey, ea, q⟩ => ?_)⟩
  subst ex ey
  obtain rfl : v = Value.ref a := rx
  obtain ⟨t, rfl⟩ := ry
  exact run_opS (y := a) c F hr hb (hx σ) I2 ea q
end
section
variable {X : Cx} {CX : CXT} {k : Nat} {C f : Addr} {fd : FuncData} {ps : List Str} {sp : Sp} {E : XK} {op : Operator} {a b : Expr} {ta tb : TE} {pos : Pos}
theorem pe_bopT (c : OpT X.K C f op "str") (F : FnOk X.prog X.w X.K X.mg X.base CX k f fd ps sp) (hr : Room k X.A) (hb : Binds X.K fd ps []) (hx : Passes CX X E) (ha : PE X a ta) (hb2 : PE X b tb) : PE X (.BinOp a op b pos) (tTxtS C sp (fun _ => E) ta tb) :=
  pe_bopTS c F hr hb (fun σ pins H s e s' I h => hx pins σ H s e s' I h) ha hb2
end
/-! ### z + a, z a text: __radd__ -/
structure RadC (K : PySem.W.Frag) (C f : Addr) : Prop where
  sf : PySem.W.selfFirst K C = true
  add : ∃ g : Addr, PySem.W.findIn K (.ref C) (PySem.dunder "add") = some (some (.ref g))
  at_ : PySem.W.findIn K (.ref C) (PySem.dunderR "add") = some (some (.ref f))
  fn : PySem.W.isFn K (.ref f) = true
section
open PySem.W PySem.Calls
variable {prog : Program} {w : World} {A : Around} {E : Value → Shared → Prop} {s : Shared} {K : PySem.W.Frag} {x C f : Addr} {ox : Obj} {od : Option Obj}
theorem rad_run {z : Str} {t : PySem.Tok} {Q : Value → Shared → Prop} (X : K.In s.heap) (I : PySem.W.InstAt s.heap x ox C od) (c : RadC K C f)
    (h : wpAny (model prog w) A (call (.ref f) [.ref x, .str z t]) (PySem.W.CmpBack Q) E s) : wpAny (model prog w) A (binaryOp .Add (.str z t) (.ref x)) Q E s := by
  obtain ⟨cd, rest, hcd, hm⟩ := PySem.W.ksp_first c.sf
  obtain ⟨gm, hg⟩ := c.add
  have one := PySem.W.ksp_try X I c.at_ c.fn h
  obtain ⟨hh, g, d, tt, os⟩ := s
  have L1 : Looks (model prog w) hh (typeOf (.str z t)) (.type "str") := Looks.of_pure rfl
  have L2 : Looks (model prog w) hh (typeOf (.ref x)) (.ref C) := I.type
  have L3 : Looks (model prog w) hh (fillsNumberSlot (.type "str") "add") false := Looks.of_pure PySem.noFill_str_add
  have L4 : Looks (model prog w) hh (fillsNumberSlot (.ref C) "add") true := fills_K X hcd hm hg
  have hne : (Value.type "str" == Value.ref C) = false := Bool.eq_false_iff.mpr fun q => by cases beq_iff_eq.mp q
  have hi : Operator.Add.info = ("+", "add") := rfl
  simp only [binaryOp, hi]
  refine wpAny_holding (wpAny_bind ?_)
  unfold binaryOp1
  refine wpAny_bind (L1.at (wpAny_bind (L2.at (wpAny_bind (L3.at ?_)))))
  simp only [hne, Bool.false_eq_true, if_false]
  ksp_lk
  refine wpAny_mono one (fun r s' hr' => ?_) fun _ _ e => e
  obtain ⟨v, rfl, hq⟩ := hr'
  first
    | exact wpAny_bind (wpAny_rule (wpAny_pure (wpAny_pure hq)))
    | (ksp_lk; exact hq)
end
section
variable {X : Cx} {CX : CXT} {k : Nat} {C f : Addr} {fd : FuncData} {ps : List Str} {sp : Sp} {E : L2.St → XK} {a b : Expr} {ta tb : TE} {pos : Pos}
def tRadS (C : Addr) (sp : Sp) (E : L2.St → XK) (ta tb : TE) : TE := fun σ H Q => ta σ H fun x H1 => tb σ H1 fun y H2 => ∃ a dx fs z, x = .str z ∧ y = .ref a ∧ H2 a = some (.ins C dx fs) ∧ sp [.ref a, .str z] H2 Q (E σ)
theorem pe_radS (c : RadC X.K C f) (F : FnOk X.prog X.w X.K X.mg X.base CX k f fd ps sp) (hr : Room k X.A) (hb : Binds X.K fd ps []) (hx : ∀ σ, PassesAt CX X σ (E σ)) (ha : PE X a ta) (hb2 : PE X b tb) : PE X (.BinOp a .Add b pos) (tRadS C sp E ta tb) := by
  refine ⟨fun pins s σ H Q I h => wpAny_BinOp (thn (ha.run pins s σ H _ I h) fun v s1 ⟨x, H1, I1, rx, q1⟩ => thn (hb2.run pins s1 σ H1 _ I1 q1) fun u s2 ⟨y, H2, I2, ry, a, dx, fs, z, ex, ey, ea, q⟩ => ?_)⟩
  subst ex ey
  obtain ⟨t, rfl⟩ := rx
  obtain rfl : u = Value.ref a := ry
  obtain ⟨mA, O, _⟩ := ins_get I2.hok ea
  obtain ⟨od, J, _⟩ := O.look
  refine rad_run I2.kIn J c ?_
  exact wpAny_mono (run_fnS (us := [.ref a, .str z t]) (vs := [.ref a, .str z]) F hr hb (hx σ) I2 (.cons rfl (.cons ⟨t, rfl⟩ .nil)) q) (fun u' s' h' => cmpBack_of h') fun _ _ z => z
end
/-! ### a += z -/
structure InpC (K : PySem.W.Frag) (C f : Addr) (op : Operator) : Prop where
  sf : PySem.W.selfFirst K C = true
  at_ : PySem.W.findIn K (.ref C) (PySem.dunderI op.info.2) = some (some (.ref f))
  fn : PySem.W.isFn K (.ref f) = true
section
variable {X : Cx} {CX : CXT} {k : Nat} {C f : Addr} {fd : FuncData} {ps : List Str} {sp : Sp} {E : L2.St → XK} {op : Operator} {x : Str} {i : Nat} {e : Expr} {te : TE} {pos pos' : Pos}
/-- a name's own object op= a text, what it lets out being taken where it stands -/
def tAugTS (i : Nat) (C : Addr) (sp : Sp) (E : L2.St → XK) (te : TE) : TS := fun D σ H => ∃ a, σ[i]? = some (some (V.ref a)) ∧ te σ H fun y H1 => ∃ dx fs z, y = .str z ∧ H1 a = some (.ins C dx fs) ∧ sp [.ref a, .str z] H1 (fun v H2 => D.nx (σ.set i (some v)) H2) (E σ)
theorem ps_augTS (hN : X.N.Nodup) (hi : X.N[i]? = some x) (hx0 : Loc X.env.scope x) (c : InpC X.K C f op) (F : FnOk X.prog X.w X.K X.mg X.base CX k f fd ps sp) (hr : Room k X.A) (hb : Binds X.K fd ps []) (hx : ∀ σ, PassesAt CX X σ (E σ)) (he : PE X e te)
    (hf : X.fn x = true ∨ X.env.scope.names.lookup x = some .local := by first | exact .inl rfl | exact .inr rfl | assumption) : PS X (.AugAssign (.Name x pos') op e pos) (tAugTS i C sp E te) := by
  refine ⟨fun pins s σ H D I h => ?_⟩
  obtain ⟨a, e1, h⟩ := h
  obtain ⟨m, hn, hl⟩ := I.loc
  have vis : Vis X.env.scope x := hx0.elim (fun k => .inl k) fun k => .inr (.inl k)
  obtain ⟨u, r, l⟩ := hl i x _ hi e1 vis
  obtain rfl : u = Value.ref a := r
  refine wpAny_AugAssign_Name ?_
  have go : wpAny (model X.prog X.w) X.A (eval e X.env) (fun w s₂ => wpAny (model X.prog X.w) X.A (inplaceOp op (.ref a) w) (fun r s₃ => wpAny (model X.prog X.w) X.A (storeName X.env x r) (fun _ => SP X pins D .next) X.xe s₃) X.xe s₂) X.xe s := by
    refine thn (he.run pins s σ H _ I h) fun w s1 ⟨y, H1, I1, r1, dx, fs, z, ey, ea, q⟩ => ?_
    subst ey
    obtain ⟨t, rfl⟩ := r1
    obtain ⟨m1, fr⟩ := I1.fr
    obtain ⟨mA, O, _⟩ := ins_get I1.hok ea
    obtain ⟨od, J, _⟩ := O.look
    have run := PySem.W.ksp_inplace (b := .str z t) fr I1.ok.mod.kin J c.sf c.at_ c.fn (wpAny_mono (run_fnS (us := [.ref a, .str z t]) (vs := [.ref a, .str z]) F hr hb (hx σ) I1 (.cons rfl (.cons ⟨t, rfl⟩ .nil)) q) (fun u' s' h' => cmpBack_of h') fun _ _ z => z)
    exact thn run fun z s2 ⟨zv, H2, I2, r2, q2⟩ => store_ok I2 hN hi hx0 r2 (fun s3 I3 => ⟨_, H2, I3, q2⟩) hf
  rcases l with ⟨hk, hm⟩ | ⟨hk, c, hc, hcell⟩
  · exact wpAny_loadName_local I.ok.kind hk hn hm go
  · have no : ∀ q : NameKind, X.env.scope.names.lookup x = some .free → X.env.scope.names.lookup x = some q → q = .free := fun q h1 h2 => (Option.some.inj (h1.symm.trans h2)).symm
    rcases hk with hk | hk
    · exact wpAny_loadName_cell I.ok.kind hk hc hcell go
    · rcases hx0 with k | k
      · exact nomatch no _ hk k
      · exact nomatch no _ hk k
end
/-! ### t[::-1] -/
section
variable {prog : Program} {w : World} {A : Around} {E : Value → Shared → Prop} {s : Shared}
theorem adjust_rev (n : Nat) : Builtin.Slice.sliceAdjust none none (-1) (n : Int) = ((n : Int) - 1, -1) := rfl
theorem places_rev (n : Nat) : Builtin.Slice.slicePlaces ((n : Int) - 1) (-1) (-1) = n := by
  unfold Builtin.Slice.slicePlaces
  rw [if_neg (by decide)]
  by_cases h : (n : Int) - 1 > -1
  · rw [if_pos h]
    have : ((n : Int) - 1 - -1 - 1) / (- -1) = (n : Int) - 1 := by
      rw [show (- -1 : Int) = 1 by decide, Int.ediv_one]
      omega
    rw [this]
    omega
  · rw [if_neg h]
    omega
theorem fm_congr {f g : Nat → Option Value} : ∀ {l : List Nat}, (∀ x ∈ l, f x = g x) → l.filterMap f = l.filterMap g
  | [], _ => rfl
  | y :: r, h => by
    have h1 := h y List.mem_cons_self
    have h2 := fm_congr (l := r) fun x hx => h x (List.mem_cons_of_mem _ hx)
    cases e : g y with
    | none => rw [List.filterMap_cons_none (h1.trans e), List.filterMap_cons_none e, h2]
    | some v => rw [List.filterMap_cons_some (h1.trans e), List.filterMap_cons_some e, h2]
theorem pick_rev (xs : Array Value) : ((List.range xs.size).filterMap fun (k : Nat) => xs[((xs.size : Int) - 1 + (k : Int) * -1).toNat]?).toArray = xs.toList.reverse.toArray := by
  have e : ∀ k ∈ List.range xs.size, (fun (k : Nat) => xs[((xs.size : Int) - 1 + (k : Int) * -1).toNat]?) k = (xs.toList.reverse)[k]? := fun k hk => by
    have hk := List.mem_range.mp hk
    have e1 : ((xs.size : Int) - 1 + (k : Int) * -1).toNat = xs.size - 1 - k := by omega
    show xs[((xs.size : Int) - 1 + (k : Int) * -1).toNat]? = _
    rw [e1, List.getElem?_reverse (by simpa using hk), Array.getElem?_toList, Array.length_toList]
  rw [fm_congr e]
  congr 1
  have all : ∀ l : List Value, (List.range l.length).filterMap (fun k => l[k]?) = l := fun l => by
    induction l with
    | nil => rfl
    | cons y r ih =>
      rw [List.length_cons, List.range_succ_eq_map, List.filterMap_cons_some (f := fun k => (y :: r)[k]?) (b := y) rfl, List.filterMap_map]
      exact congrArg (y :: ·) ih
  have := all xs.toList.reverse
  rw [List.length_reverse, Array.length_toList] at this
  exact this
theorem applied_rev {sl : Addr} {vs : Value} {n : Nat} {Q : Int × Int × Nat → Shared → Prop} (hs : s.heap.IsSliceOf sl .none .none vs) (pv : IsPart vs (some (-1))) (h : Q ((n : Int) - 1, -1, n) s) : wpAny (model prog w) A (Builtin.Slice.sliceApplied (.ref sl) (pure (n : Int))) Q E s := by
  obtain ⟨os, hos, hcs, hds⟩ := id hs
  unfold Builtin.Slice.sliceApplied Builtin.Slice.sliceFields
  refine wpAny_bind (wpAny_bind (wpAny_field hos hds (x := .none) rfl (wpAny_bind (wpAny_field hos hds (x := .none) rfl (wpAny_bind (wpAny_field hos hds (x := vs) rfl (wpAny_pure ?_)))))))
  refine wpAny_bind (HT.slicePart_ pv ?_)
  show wpAny _ _ (if ((-1 : Int) == 0) = true then _ else _) _ _ s
  rw [if_neg (by decide)]
  refine wpAny_bind (slicePart_none (wpAny_bind (slicePart_none (wpAny_bind (wpAny_pure ?_)))))
  show wpAny _ _ (pure ((n : Int) - 1, (-1 : Int), Builtin.Slice.slicePlaces ((n : Int) - 1) (-1) (-1))) _ _ s
  rw [places_rev]
  exact wpAny_pure h
theorem getItem_rev {t sl : Addr} {items : Array Value} {vs : Value} {Q : Value → Shared → Prop} (ht : IsTup s.heap t items) (hs : s.heap.IsSliceOf sl .none .none vs) (pv : IsPart vs (some (-1)))
    (h : Q (.ref s.heap.objs.size) { s with heap := s.heap.push { cls := .type "tuple", data := .seq items.toList.reverse.toArray } }) (hsz : items.size ≤ sizeLine) : wpAny (model prog w) A (getItem (.ref t) (.ref sl)) Q E s := by
  have fits : sizeOk (.seq items.toList.reverse.toArray) := by
    show items.toList.reverse.toArray.size ≤ sizeLine
    rw [List.size_toArray, List.length_reverse, Array.length_toList]
    exact hsz
  have hTs : s.TypeIs (.ref sl) "slice" := by obtain ⟨os, hos, hcs, _⟩ := hs; exact ⟨os, hos, hcs⟩
  unfold getItem
  try with_reducible refine wpAny_holding ?_
  first | refine wpAny_bind (wpAny_pure ?_) | skip
  refine wpAny_bind (wpAny_sequenceKey ht.typeIs (by decide) ?_)
  refine wpAny_bind (wpAny_callSpecial?_slot (name := Str.ofString "__getitem__") ht.typeIs PyProof.Rows.slot_tuple_getitem
    (wpAny_call_entry PyProof.Rows.slot_tuple_getitem ht.typeIs entry_tuple_getitem ?_ (args_tuple_getitem _ _)))
  refine wpAny_bind (m := Builtin.Tuple.tupleItemsOf (.ref t)) (tupleItemsOf_ ht (wpAny_bind (wpAny_typeOf hTs ?_)))
  rw [if_pos (by decide)]
  refine wpAny_bind (applied_rev hs pv ?_)
  show wpAny _ _ (if (((items.size : Int) - 1) == 0 && (-1 : Int) == 1 && items.size == items.size) = true then _ else _) _ _ s
  rw [if_neg (by rw [show ((-1 : Int) == 1) = false from rfl, Bool.and_false, Bool.false_and]; decide), pick_rev]
  first
    | exact wpAny_bind (m := Builtin.Tuple.tupleExact _) (wpAny_newObj_type (wpAny_pure ⟨_, rfl, wpAny_pure h⟩) fits)
    | exact wpAny_bind (wpAny_bind (m := Builtin.Tuple.tupleExact _) (wpAny_newObj_type (wpAny_pure (wpAny_pure ⟨_, rfl, wpAny_pure h⟩)) fits))
    | exact wpAny_bind (wpAny_bind (m := Builtin.Tuple.tupleExact _) (wpAny_newObj_type (wpAny_pure ⟨_, rfl, wpAny_pure h⟩) fits))
end
/-- t[::-1] -/
def tRevT (K : PySem.W.Frag) (te : TE) : TE := fun σ H Q => te σ H fun x H1 => ∃ a xs, x = .ref a ∧ SqT K H1 a xs ∧ ∀ p, H1 p = none → Q (.ref p) (upd H1 p (.tup xs.reverse))
theorem pe_revT {X : Cx} {e : Expr} {te : TE} {k : Nat} {p1 p2 p3 pos : Pos} (he : PE X e te) : PE X (.Subscript e (.Slice none none (some (.UnaryOp .USub (.Constant (.int 1) k p1) p2)) p3) pos) (tRevT X.K te) := by
  refine ⟨fun pins s σ H Q I h => Subscript_ (thn (he.run pins s σ H _ I h) fun v s1 ⟨x, H1, I1, r1, a, xs, ex, hx, q⟩ => ?_)⟩
  subst ex
  obtain rfl : v = Value.ref a := r1
  have step : PO X (some (.UnaryOp .USub (.Constant (.int 1) k p1) p2)) (tPart (tUn (rU fun i => .int (-i)) (tC (.int 1)))) := po_some (pe_un un_neg pe_int)
  refine wpAny_Slice (thn (po_none.run pins s1 σ H1 (fun o H2 => o = none ∧ H2 = H1) I1 ⟨rfl, rfl⟩) fun vl s2 ⟨l, H2, I2, pl, el, e2⟩ => ?_)
  subst el e2
  refine thn (po_none.run pins s2 σ H2 (fun o H3 => o = none ∧ H3 = H2) I2 ⟨rfl, rfl⟩) fun vu s3 ⟨u, H3, I3, pu, eu, e3⟩ => ?_
  subst eu e3
  refine thn (step.run pins s3 σ H3 (fun o H4 => o = some (-1) ∧ H4 = H3) I3 ⟨1, rfl, -1, rfl, rfl, rfl⟩) fun vs s4 ⟨o, H4, I4, pv, eo, e4⟩ => ?_
  subst eo e4
  obtain rfl : vl = Value.none := by cases pl; rfl
  obtain rfl : vu = Value.none := by cases pu; rfl
  have I5 : Inv X pins σ H4 { s4 with heap := s4.heap.push { cls := .type "slice", data := .fields #[.none, .none, vs] } } := I4.kept (t' := s4.toks) fun b ob q => Heap.get?_push_of_some _ q
  obtain ⟨its, r, ht, hz⟩ := I5.tuple hx
  have hlen := r.length
  show wpAny (model X.prog X.w) X.A (subscriptTail e (.Slice none none (some (.UnaryOp .USub (.Constant (.int 1) k p1) p2)) p3) (.ref a) (.ref s4.heap.objs.size)) (EP X pins σ Q) X.xe { s4 with heap := s4.heap.push { cls := .type "slice", data := .fields #[.none, .none, vs] } }
  refine tail_any (ops := [.ref a, .ref s4.heap.objs.size]) ht.typeIs PyProof.Rows.slot_tuple_getitem.lookup ?_ (by with_unfolding_all rfl)
  refine getItem_rev ht (Heap.IsSliceOf.new _ .none .none vs) pv ?_ (by rw [List.size_toArray, ← hlen]; exact hz)
  refine ⟨.ref _, _, I5.laid (t' := s4.toks) (o := .tup xs.reverse) (fun b ob q => Heap.get?_push_of_some _ q) (Nat.le_refl _) ?_, rfl, q _ (I5.hok.fresh (Nat.le_refl _))⟩
  exact ⟨by rw [List.length_reverse]; exact hz, _, r.reverse, IsTup.new _ _⟩
/-! ### defs of own classes, ready to be called -/
structure CalT (P : Program) (w : World) (K : PySem.W.Frag) (mg : Str → Option Value) (base : Heap) (CX : CXT) (k : Nat) (C : Addr) (op : Operator) (f : Addr) (fd : FuncData) (ps : List Str) (sp : Sp) : Prop extends CalB P w K mg base CX k f fd ps sp where
  ot : OpT K C f op "str"
structure CalRad (P : Program) (w : World) (K : PySem.W.Frag) (mg : Str → Option Value) (base : Heap) (CX : CXT) (k : Nat) (C f : Addr) (fd : FuncData) (ps : List Str) (sp : Sp) : Prop extends CalB P w K mg base CX k f fd ps sp where
  ra : RadC K C f
structure CalInp (P : Program) (w : World) (K : PySem.W.Frag) (mg : Str → Option Value) (base : Heap) (CX : CXT) (k : Nat) (C : Addr) (op : Operator) (f : Addr) (fd : FuncData) (ps : List Str) (sp : Sp) : Prop extends CalB P w K mg base CX k f fd ps sp where
  ip : InpC K C f op
structure CalInv (P : Program) (w : World) (K : PySem.W.Frag) (mg : Str → Option Value) (base : Heap) (CX : CXT) (k : Nat) (C f : Addr) (fd : FuncData) (ps : List Str) (sp : Sp) : Prop extends CalB P w K mg base CX k f fd ps sp where
  iv : InvC K C f
/-- one or the other reading of the same expression -/
def tEither (t1 t2 : TE) : TE := fun σ H Q => t1 σ H Q ∨ t2 σ H Q
theorem pe_either {X : Cx} {e : Expr} {t1 t2 : TE} (h1 : PE X e t1) (h2 : PE X e t2) : PE X e (tEither t1 t2) := ⟨fun pins s σ H Q I h => h.elim (h1.run pins s σ H Q I) (h2.run pins s σ H Q I)⟩
/-- what isinstance asks of an own class -/
structure IsC (K : PySem.W.Frag) (C : Addr) : Prop where
  ha : PySem.W.findIn K (.ref C) "__class__" = some (some (.builtin "object.__class__"))
  hn : PySem.W.specialIn K (.builtin "object.__class__") "__get__" = some (some (.builtin "getset_descriptor.__get__"))
  tk : PySem.W.takesIn K (.builtin "object.__class__") = some true
  hm : PySem.W.mroIn K C (.type "object") = some true
theorem ty_ins {K : PySem.W.Frag} {H : Hp} {a C dx : Addr} {fs : List (Str × V)} (e : H a = some (.ins C dx fs)) (cl : Cls K C) (i : IsC K C) : TyX K H (.ref a) (.ref C) := .base (.ins e cl i.ha i.hn i.tk i.hm)
theorem kit_self {K : PySem.W.Frag} {C : Addr} : PySem.W.kitOne K (.ref C) (.ref C) = some true := by
  unfold PySem.W.kitOne
  rw [if_pos (beq_iff_eq.mpr rfl)]
end El

set_option Elab.async false
set_option linter.all false
set_option maxRecDepth 100000
set_option maxHeartbeats 4000000
/-! Own words: plain defs with defaults, called with and without them. -/
namespace El
open PySem PySem.Spec PyProof.Rows L2
structure CalD (P : Program) (w : World) (K : PySem.W.Frag) (mg : Str → Option Value) (base : Heap) (CX : CXT) (k : Nat) (x : Str) (f : Addr) (fd : FuncData) (ps : List Str) (dvs : List V) (sp : Sp) : Prop extends Cal P w K mg base CX k x f fd ps sp where
  bd : ∃ ds, Vals dvs ds ∧ Binds K fd ps ds
section
variable {X : Cx} {CX : CXT} {k : Nat} {f : Addr} {fd : FuncData} {ps : List Str} {dvs : List V} {sp : Sp} {E : XK} {x : Str} {p pos : Pos} {e : Expr} {es : List Expr} {t : TA}
theorem pe_callD (c : CalD X.prog X.w X.K X.mg X.base CX k x f fd ps dvs sp) (hr : Room k X.A) (hg : Gl X x) (hx : Passes CX X E) (ha : PA X (e :: es) t) (hdb : (x == ("__debug__" : Str)) = false := by decide)
    (he : starEach (e :: es) X.env = (false, eval e X.env) :: starEach es X.env := by rfl) (hpl : (backTo pos (starEach es X.env)).any (·.1) = false := by rfl) :
    PE X (.Call (.Name x p) (e :: es) [] pos) (tCall sp dvs E t) := by
  obtain ⟨ds, hd, hb⟩ := c.bd
  exact pe_call c.G hr hg c.m c.kp hb hd hx ha hdb he hpl
end
theorem binds_nil {K : PySem.W.Frag} {fd : FuncData} {ps : List Str} (h : ∃ ds, Vals ([] : List V) ds ∧ Binds K fd ps ds) : Binds K fd ps [] := by
  obtain ⟨ds, hv, hb⟩ := h
  cases hv
  exact hb
end El

set_option Elab.async false
set_option linter.all false
set_option maxRecDepth 100000
set_option maxHeartbeats 4000000
/-! Own words: a list comprehension that an exception leaves. -/
namespace El
open PySem PySem.Spec PyProof.Rows L2
/-- the block, its own wish about exceptions -/
abbrev bx (X : Cx) (s : Shared) (H : Hp) (scope : Scope) (cenv : Env) (fp : List Addr) (xe : Value → Shared → Prop) : Cx := { X.blk s H scope cenv fp with xe := xe }
theorem inv_xe {X : Cx} {xe : Value → Shared → Prop} {pins : List (Addr × Obj)} {σ : L2.St} {H : Hp} {s : Shared} (I : Inv X pins σ H s) : Inv { X with xe := xe } pins σ H s :=
  ⟨⟨I.ok.mod, I.ok.kind, I.ok.glob, I.ok.blt, I.ok.above, I.ok.inj, I.ok.has, I.ok.cab, I.ok.hd, I.ok.frames, I.ok.stk, I.ok.exf, I.ok.bs, I.ok.bsz, I.ok.noex, I.ok.exfs, I.ok.funs, I.ok.frf⟩, I.os, I.bare, I.base, I.loc, I.cell, I.free, I.freeC, I.pin, I.hok, I.len⟩
theorem ff_move {B B' h h' : Heap} : ∀ {l : List Env}, h.FunFrames B l → (∀ L ∈ frs l, B'.get? L = none) → (∀ L ∈ frs l, ∀ o, h.get? L = some o → h'.get? L = some o) → h'.FunFrames B' l
  | [], _, _, _ => trivial
  | env :: l, h, hn, hk => by
    obtain ⟨k, ⟨L, o, hf, _, ho, hd⟩, hr⟩ := h
    have m : ∀ {b : Addr}, b ∈ frs l → b ∈ frs (env :: l) := fun hb => by
      obtain ⟨e, he, q⟩ := List.mem_filterMap.mp hb
      exact List.mem_filterMap.mpr ⟨e, List.mem_cons_of_mem _ he, q⟩
    have mL : L ∈ frs (env :: l) := List.mem_filterMap.mpr ⟨env, List.mem_cons_self, hf⟩
    exact ⟨k, ⟨L, o, hf, hn L mL, hk L mL o ho, hd⟩, ff_move hr (fun b hb => hn b (m hb)) fun b hb => hk b (m hb)⟩
/-- what leaves the block is taken by the def around it -/
theorem blk_out {X : Cx} {scope : Scope} {ce : Env} {fp : List Addr} {E : XK} {pins : List (Addr × Obj)} {σ : L2.St} {H3 : Hp} {s3 : Shared} (hs : X.stack = X.env :: X.outer) (hf : X.env.frame = some X.env.locals) (hcf : ce.frame = X.env.frame) (hcl : ce.locals = s3.heap.objs.size)
    (I3 : Inv X pins σ H3 s3) (hfp : ∀ b ∈ fp, FpOk X pins H3 b) (tk : Takes X (fun c d _ H => E c d H)) {xe : Value → Shared → Prop} {pins' : List (Addr × Obj)} {σ' : L2.St} {H' : Hp} {s5 s' : Shared} {u : Value}
    (I5 : Inv (bx X s3 H3 scope ce fp xe) pins' σ' H' s5) (c : L2.CX X.prog X.w X.stack H' s5 E u s') :
    notedBy (model X.prog X.w) X.A ce (CompFails (model X.prog X.w) X.A X.xe ce) u s' := by
  obtain ⟨a, B, H6, cls, d, rfl, fl, hokB, ub, na, os, ag, hE⟩ := c
  have nC : H' ce.locals = none := I5.free
  obtain ⟨m0, ⟨oC, es, ep, hoC, rC⟩, _⟩ := I5.loc
  have hoC : s5.heap.get? ce.locals = some oC := hoC
  have cfr : ce.locals ∉ frs X.stack := fun hm => by
    rcases List.mem_cons.mp (I3.stkSub _ hm) with z | z
    · have := I3.lt
      rw [← z, hcl] at this
      exact Nat.lt_irrefl _ this
    · exact I3.nofs (Nat.le_of_eq hcl.symm) z
  have bC : B.get? ce.locals = some oC := ub.keep _ _ hoC nC cfr
  have nC6 : H6 ce.locals = none := ub.free _ _ hoC nC
  have en : noteFrame (.ref a) ce = noteFrame (.ref a) X.env := by
    unfold noteFrame PySem.frameOf
    rw [hcf]
  show wpAny _ _ (noteFrame (.ref a) ce) _ _ _
  rw [en]
  have hfr : X.A.frames = some (X.env :: X.outer) := by rw [I3.ok.frames, hs]
  have fl' := fl
  rw [hs] at fl'
  refine HandSPX.looks_onZ Zc.steady hfr hf fl' fun h1 hh up1 => ?_
  obtain ⟨b1, b2, b3, b4⟩ := id hh
  refine ⟨_, ⟨oC, es, ep, b1 _ _ bC, rC⟩, fun h2 m2 hn2 sb => ?_⟩
  obtain ⟨B', hB'⟩ : ∃ B', B' = PySem.W.hideAll B [ce.locals] := ⟨_, rfl⟩
  have k' : ∀ b o, b ≠ ce.locals → B.get? b = some o → B'.get? b = some o := fun b o n e => by
    rw [hB']
    exact PySem.W.hideAll_get _ e fun z => n (List.mem_singleton.mp z)
  have o' : ∀ b o, B'.get? b = some o → B.get? b = some o ∧ b ≠ ce.locals := fun b o e => by
    rw [hB'] at e
    refine ⟨PySem.W.of_hideAll _ e, fun z => ?_⟩
    rw [PySem.W.hideAll_none _ (List.mem_singleton.mpr z)] at e
    cases e
  have n' : ∀ b, B.get? b = none → B'.get? b = none := fun b e => by
    cases q : B'.get? b with
    | none => rfl
    | some o => rw [(o' b o q).1] at e; cases e
  have ne : ∀ b, B.get? b = none → b ≠ ce.locals := fun b e z => by rw [z, bC] at e; cases e
  have hh2 : HandSPX.HeldZ B' (X.env :: X.outer) a (Zc cls d) X.env.locals h2 := by
    refine ⟨fun b o e => ?_, n' _ b2, ff_move b3 (fun L hL => n' _ (b3.mem hL).1) (fun L hL o e => ?_), ?_⟩
    · obtain ⟨e1, n⟩ := o' b o e
      rw [sb.2 b n]
      exact b1 _ _ e1
    · rw [sb.2 L (ne _ (b3.mem hL).1)]
      exact e
    · obtain ⟨oe, vs, T, oT, ts, he, hz, hd, h1', hnT, hTe, hT, hdT, h3⟩ := b4
      exact ⟨oe, vs, T, oT, ts, (sb.2 a (ne _ b2)).trans he, hz, hd, h1', n' _ hnT, hTe, (sb.2 T (ne _ hnT)).trans hT, hdT, h3⟩
  -- the end: the def's air
  have fin : ∀ h4, HandSPX.HeldZ B' (X.env :: X.outer) a (Zc cls d) X.env.locals h4 → h2.UpToSlots h4 → X.xe (.ref a) { s' with heap := h4 } := fun h4 hh4 up4 => by
    obtain ⟨G, g1, g2⟩ := restrict h4 fun b => (B'.get? b).isSome || decide (b ∈ frs X.stack)
    have st : B'.StaysIn h4 := hh4.1
    have gB : ∀ b o, B'.get? b = some o → G.get? b = some o := fun b o e => by
      rw [g1 b (by simp [e])]
      exact st b o e
    have gF : ∀ b, b ∈ frs X.stack → G.get? b = h4.get? b := fun b hb => g1 b (by simp [hb])
    have og : ∀ b o, G.get? b = some o → h4.get? b = some o ∧ ((B'.get? b).isSome = true ∨ b ∈ frs X.stack) := fun b o e => by
      cases q : ((B'.get? b).isSome || decide (b ∈ frs X.stack)) with
      | false => rw [g2 b q] at e; cases e
      | true =>
        rw [g1 b q] at e
        exact ⟨e, by simpa [Bool.or_eq_true] using q⟩
    have lt : ∀ b o, s3.heap.get? b = some o → b ≠ ce.locals := fun b o e z => by
      have := Heap.lt_size e
      rw [z, hcl] at this
      exact Nat.lt_irrefl _ this
    -- a frame, from the call to here
    have frame : ∀ b o, b ∈ frs X.stack → s5.heap.get? b = some o → ∃ sl, G.get? b = some { o with slots := sl } := fun b o hb e => by
      obtain ⟨_, o2, e2, hd⟩ := I5.stack.mem hb
      rw [e] at e2
      cases e2
      obtain ⟨sl, q⟩ := ub.slot b o e hb
      obtain ⟨sl1, q1⟩ := up1 b _ q hd
      have q2 : h2.get? b = some { o with slots := sl1 } := (sb.2 b (fun z => cfr (z ▸ hb))).trans q1
      obtain ⟨sl3, q3⟩ := up4 b _ q2 hd
      exact ⟨sl3, by rw [gF b hb]; exact q3⟩
    have base : Un (frs X.stack) fp H3 H' s3.heap s5.heap := I5.base
    have hU : Un (frs X.stack) fp H3 H6 s3.heap G := by
      refine ⟨fun b o e n hb hc => ?_, fun b o e n hb hc => ?_, fun b o e n hc => ?_, fun b o e hc => ?_, fun b xs e => ub.tups _ _ (base.tups _ _ e), fun b o xs e => ub.frzs _ _ _ (base.frzs _ _ _ e), fun b ps e => ?_⟩
      · have e5 := base.keep b o e n hb hc
        have n5 := base.free b o e n hc
        exact gB _ _ (k' _ _ (lt _ _ e) (ub.keep b o e5 n5 hb))
      · obtain ⟨sl, e5⟩ := base.slot b o e n hb hc
        obtain ⟨sl2, q⟩ := frame b _ hb e5
        exact ⟨sl2, q⟩
      · obtain ⟨o5, e5⟩ := base.there b o e hc
        exact ub.free b o5 e5 (base.free b o e n hc)
      · obtain ⟨o5, e5⟩ := base.there b o e hc
        by_cases hb : b ∈ frs X.stack
        · obtain ⟨sl2, q⟩ := frame b _ hb e5
          exact ⟨_, q⟩
        · obtain ⟨o6, e6⟩ := ub.there b o5 e5 hb
          exact ⟨o6, gB _ _ (k' _ _ (lt _ _ e) e6)⟩
      · obtain ⟨m1, e1⟩ := base.tbls b ps e
        obtain ⟨m2, e2⟩ := ub.tbls b _ e1
        exact ⟨m1 ++ m2, by rw [e2, Array.append_assoc]⟩
    have hok : HOk X.prog X.w H6 G := fun b o q => (hokB b o q).stay (fun c u hc r => gB _ _ (k' _ _ (fun z => by
      rcases hc with hc | hc
      · rw [← hc, z, nC6] at q; cases q
      · rw [z, nC6] at hc; cases hc) r)) (fun _ r => r) fun _ _ r => r
    have osI : s'.os = s3.os := os.trans I5.os
    have IsI := I3.call (g' := s'.gens) (t' := s'.toks) (d' := s'.drawn) (ch := fp) hU hok ag fun b hb => ⟨(hfp b hb).2.2.2.1, (hfp b hb).2.1, (hfp b hb).2.2.2.2.1, (hfp b hb).2.2.2.2.2⟩
    refine tk _ _ ⟨a, B', _, pins, σ, H6, cls, d, rfl, IsI, fun b o e hb => ?_, Heap.UpToSlots.of_keeps fun b o e => (og b o e).1, .inr (.inr (by rw [hs]; exact hh4)), na, osI, ag, hE⟩
    obtain ⟨e', h⟩ := og b o e
    rcases h with h | h
    · obtain ⟨o2, q⟩ := Option.isSome_iff_exists.mp h
      have z := st b o2 q
      rw [e'] at z; cases z
      exact q
    · exact absurd h hb
  obtain ⟨k1, k2, k3, oe, vs, T, oT, ts', he, hz, hd, h1', hr⟩ := id hh2
  unfold PySem.passOn
  refine wpAny_bind (wpAny_field he hd h1' ?_)
  rw [if_neg (show ¬ ((Value.ref T == Value.none) = true) from by simp)]
  have go : wpAny (model X.prog X.w) X.A (setFlight (.ref a) ce.frame) (fun _ s4 => wpAny (model X.prog X.w) X.A (throw (.ref a) : Sem Value) (fun _ _ => False) X.xe s4) X.xe { s' with heap := h2 } := by
    rw [hcf, hf]
    exact HandSPX.setFlight_onZ hh2 fun h4 hh4 up4 => wpAny_throw (fin h4 hh4 up4)
  first
    | exact wpAny_bind (wpAny_pure (wpAny_bind go))
    | exact wpAny_bind go
/-- [elt for target in iter if ..], from which an exception may go out -/
theorem pe_lcX {X : Cx} {E : XK} {elt tg iter : Expr} {ifs : List Expr} {scope : Scope} {own : List (Str × Nat)} {pos : Pos} {wi : TI} {g : TG} {tt : TT} {te : TE} (hc : X.calm = true) (hN : X.N.Nodup)
    (hst : X.stack = X.env :: X.outer) (hfr : X.env.frame = some X.env.locals) (tk : Takes X (fun c d _ H => E c d H)) (hi : PI X tg iter wi) (ok : BlkOk X.N X.env.scope scope own)
    (hg : ∀ (s : Shared) (H : Hp) (C : Addr) (cl : List (Str × Addr)) (fp : List Addr) (xe : Value → Shared → Prop), PG (bx X s H scope (compEnvC scope cl C X.env) fp xe) tg g)
    (ht : ∀ (s : Shared) (H : Hp) (C : Addr) (cl : List (Str × Addr)) (fp : List Addr) (xe : Value → Shared → Prop), PTs (bx X s H scope (compEnvC scope cl C X.env) fp xe) ifs tt)
    (he : ∀ (s : Shared) (H : Hp) (C : Addr) (cl : List (Str × Addr)) (fp : List Addr) (xe : Value → Shared → Prop), Passes (L2.CX X.prog X.w) (bx X s H scope (compEnvC scope cl C X.env) fp xe) E → PE (bx X s H scope (compEnvC scope cl C X.env) fp xe) elt te)
    (hs : ∀ x, foldedSetIterable iter X.env x = pure x := by intro _; rfl) :
    PE X (.ListComp elt [⟨tg, iter, ifs, 0⟩] scope pos) (tLc wi g tt te (own.map (·.2))) := by
  refine ⟨fun pins s σ H Q I h => ?_⟩
  rw [eval_ListComp]
  have hfree : ∀ y ∈ scope.names, y.2 = .free → ∃ c, X.env.cells.lookup y.1 = some c := fun y hy e => by
    rcases ok.free y hy e with k | k
    · exact I.ok.has _ (.inl k)
    · exact I.ok.has _ (.inr k)
  refine comprehension_at (use := none) rfl hs (closure_ok hfree) ok.kind (fun y hy e => by rw [ok.uniq y hy, e]) (thn (hi.run pins s σ H _ I h) fun xv s1 hx => thn hx fun itv s2 h2 => ?_)
  obtain ⟨it, fp, tn, J, H2, e, I2, T, st2, f2, q⟩ := h2
  subst e
  refine wpAny_newObj_type (newEnv_comp ?_) (by show 0 ≤ sizeLine; decide)
  generalize hD : s2.heap.objs.size = D
  have hDn : H2 D = none := I2.hok.fresh (Nat.le_of_eq hD)
  obtain ⟨W, ⟨m0, w0⟩, turn⟩ := q D hDn
  generalize hs3 : ({ s2 with heap := s2.heap.push { cls := .type "list", data := .seq ([] : List Value).toArray } } : Shared) = s3
  have I3 : Inv X pins σ (upd H2 D (.lst [])) s3 := by
    rw [← hs3]
    refine I2.laid (t' := s2.toks) (fun b o e => Heap.get?_push_of_some _ e) (Nat.le_of_eq hD) ⟨Nat.zero_le _, [], 0, .nil, ?_⟩
    rw [← hD]
    exact Heap.get?_push_size _ rfl
  have h3 : s3.heap = s2.heap.push { cls := .type "list", data := .seq ([] : List Value).toArray } := by rw [← hs3]
  have sz : ∀ b ∈ fp, b < s2.heap.objs.size := fun b hb => by
    obtain ⟨o, e, _⟩ := T.obj _ _ st2 b hb
    exact Heap.lt_size e
  have f3 : ∀ b ∈ fp, FpOk X pins (upd H2 D (.lst [])) b ∧ b < s3.heap.objs.size := fun b hb => by
    have hlt := sz b hb
    refine ⟨⟨?_, (f2 b hb).2⟩, by rw [h3, Heap.size_push]; exact Nat.lt_succ_of_lt hlt⟩
    rw [upd_ne (by rw [← hD]; exact Nat.ne_of_lt hlt)]
    exact (f2 b hb).1
  have st3 : tn 0 s3.heap := T.keep _ _ _ st2 fun b _ o e => by rw [h3]; exact Heap.get?_push_of_some _ e
  have I4 := block_start I3 ok hN f3
  show codeAny _ _ (.compStart (.ListComp elt [⟨tg, iter, ifs, 0⟩] scope pos) 0 (.ref it) (.ref D) (compEnvC scope (cellsFrom (s3.heap.objs.size + 1) scope.names (cloFrom X.env.cells scope.names [])) s3.heap.objs.size X.env))
    (compEnds (model X.prog X.w) X.A X.xe none (EP X pins σ Q) (.ref D) (compEnvC scope (cellsFrom (s3.heap.objs.size + 1) scope.names (cloFrom X.env.cells scope.names [])) s3.heap.objs.size X.env)) { s3 with heap := pushCells (s3.heap.push { cls := .type "dict", data := .dict #[] }) scope.names }
  have nfp : ∀ b ∈ fp, (upd H2 D (.lst [])) b = none := fun b hb => (f3 b hb).1.1
  have hgs := fun xe => hg s3 (upd H2 D (.lst [])) s3.heap.objs.size (cellsFrom (s3.heap.objs.size + 1) scope.names (cloFrom X.env.cells scope.names [])) fp xe
  have hts := fun xe => ht s3 (upd H2 D (.lst [])) s3.heap.objs.size (cellsFrom (s3.heap.objs.size + 1) scope.names (cloFrom X.env.cells scope.names [])) fp xe
  have hes := fun xe => he s3 (upd H2 D (.lst [])) s3.heap.objs.size (cellsFrom (s3.heap.objs.size + 1) scope.names (cloFrom X.env.cells scope.names [])) fp xe
  have cF : (compEnvC scope (cellsFrom (s3.heap.objs.size + 1) scope.names (cloFrom X.env.cells scope.names [])) s3.heap.objs.size X.env).frame = X.env.frame := rfl
  generalize hce : compEnvC scope (cellsFrom (s3.heap.objs.size + 1) scope.names (cloFrom X.env.cells scope.names [])) s3.heap.objs.size X.env = ce at I4 hgs hts hes cF ⊢
  have cL : ce.locals = s3.heap.objs.size := by subst hce; rfl
  generalize hH3 : upd H2 D (.lst []) = H3 at I3 I4 hgs hts hes w0 nfp f3
  obtain ⟨xe, hxe⟩ : ∃ xe, xe = notedBy (model X.prog X.w) X.A ce (CompFails (model X.prog X.w) X.A X.xe ce) := ⟨_, rfl⟩
  have I4 := inv_xe (xe := xe) I4
  have pg := hgs xe
  have pt := hts xe
  have pe := hes xe (fun pins' σ' H' s5 u s' I5 c => by
    show xe u s'
    rw [hxe]
    exact blk_out hst hfr cF cL I3 (fun b hb => (f3 b hb).1) tk I5 c)
  generalize hs4 : ({ s3 with heap := pushCells (s3.heap.push { cls := .type "dict", data := .dict #[] }) scope.names } : Shared) = s4 at I4 ⊢
  have st4 : tn 0 s4.heap := T.keep _ _ _ st3 fun b _ o e => by rw [← hs4]; exact pushCells_keeps _ _ _ _ (Heap.get?_push_of_some _ e)
  have stat : ∀ {σ' : L2.St} {H' : Hp} {s' : Shared}, Inv (bx X s3 H3 scope ce fp xe) [] σ' H' s' → (∀ b ∈ fp, H' b = none) → ∀ b ∈ fp, FpOk (bx X s3 H3 scope ce fp xe) [] H' b := fun {σ' H' s'} I' hn b hb =>
    ⟨hn b hb, (I'.ok.exf b hb).1, I'.ok.exfs b hb, .inl hb, fun x c e => (I'.ok.exf b hb).2 x c e, fun p hp => absurd (show p ∈ ([] : List (Addr × Obj)) ++ [] from hp) (by simp)⟩
  have loop : codeAny (model X.prog X.w) X.A (.compLoop (.ListComp elt [⟨tg, iter, ifs, 0⟩] scope pos) 0 (.ref it) (.ref D) ce) (compEnds (model X.prog X.w) X.A X.xe none (EP X pins σ Q) (.ref D) ce) s4 := by
    refine compLoop_any (fun n s' => ∃ i H', Inv (bx X s3 H3 scope ce fp xe) [] (wipe σ (own.map (·.2))) H' s' ∧ tn i s'.heap ∧ (∀ b ∈ fp, H' b = none) ∧ W i n H') ?_ m0 ⟨0, H3, I4, st4, nfp, w0⟩
    rw [show (notedBy (model X.prog X.w) X.A ce fun e s' => compEnds (model X.prog X.w) X.A X.xe none (EP X pins σ Q) (.ref D) ce (.error e) s') = xe from hxe.symm]
    rintro n s5 ⟨i, H5, I5, st5, n5, w5⟩
    rcases turn i n H5 w5 with ⟨stop, qq⟩ | ⟨go, Nx, hNx, step⟩
    · have td := T.done (bx X s3 H3 scope ce fp xe) rfl rfl rfl hc i [] s5 _ H5 (fun _ _ => False) I5 (stat I5 n5) st5 stop
      refine thnF td fun r s6 ⟨hr, I6⟩ => ?_
      subst hr
      have I7 : Inv X pins σ H5 s6 := I3.call' (ch := fp) I6.os I6.base I6.hok I6.bare fun b hb => ⟨(f3 b hb).1.2.2.2.1, (f3 b hb).1.2.1, (f3 b hb).1.2.2.2.2.1, (f3 b hb).1.2.2.2.2.2⟩
      have nC : H5 s3.heap.objs.size = none := by
        have z : H5 ce.locals = none := I6.free
        rw [cL] at z
        exact z
      obtain ⟨m, hn, _⟩ := I6.loc
      have hn : s6.heap.Ns ce.locals m := hn
      obtain ⟨f0, f1, f2', f3', f4, f5⟩ := I3.fpOk (Nat.le_refl _) nC
      rw [← cL] at f0 f1 f3' f4 f5
      refine ⟨m, hn, fun h'' sb => ?_⟩
      exact ⟨.ref D, H5, I7.turned (t' := s6.toks) (fun b o hb e => (sb.2 b hb).trans e) f0 f1 f3' f4 f5, rfl, qq⟩
    · have ti := T.item (bx X s3 H3 scope ce fp xe) rfl rfl rfl hc i [] s5 _ H5 (fun _ _ => False) I5 (stat I5 n5) st5 go
      refine thnF ti fun r s6 ⟨u, hr, h6⟩ => ?_
      subst hr
      refine thnF h6 fun _ s7 ⟨x, H7, I7, r7, y7, st7, n7⟩ => ?_
      have I7' := I7.pinned (stat I7 n7) (T.obj _ _ st7)
      refine thn (pg.run _ s7 _ H7 x u _ I7' r7 (step x H7 y7)) fun _ s8 ⟨σ8, H8, I8, hw8, q8⟩ => ?_
      refine thn (pt.run _ s8 σ8 H8 _ I8 q8) fun b s9 ⟨H9, I9, q9⟩ => ?_
      have fin : ∀ {s' : Shared} {H' : Hp}, Inv (bx X s3 H3 scope ce fp xe) ([] ++ pinsAt fp s7.heap) σ8 H' s' → Nx H' → ∃ m, m < n ∧ ∃ i H', Inv (bx X s3 H3 scope ce fp xe) [] (wipe σ (own.map (·.2))) H' s' ∧ tn i s'.heap ∧ (∀ b ∈ fp, H' b = none) ∧ W i m H' := fun {s' H'} I' nx => by
        obtain ⟨m', hm, w'⟩ := hNx H' nx
        have pin' : ∀ b ∈ fp, ∀ o, s7.heap.get? b = some o → s'.heap.get? b = some o ∧ H' b = none := fun b hb o e =>
          let z := I'.pin (b, o) (List.mem_append_right _ (List.mem_append_right _ (mem_pinsAt hb e)))
          ⟨z.1, z.2.1⟩
        have hl : (wipe σ (own.map (·.2))).length = σ8.length := by rw [← hw8, wipe_length]
        refine ⟨m', hm, i + 1, H', (I'.unpinned (pins := [])).weak hl (fun j v e => ?_), T.keep _ _ _ st7 fun b hb o e => (pin' b hb o e).1, fun b hb => ?_, w'⟩
        · rw [← hw8] at e
          exact (wipe_some e).1
        · obtain ⟨o, e, _⟩ := T.obj _ _ st7 b hb
          exact (pin' b hb o e).2
      cases b with
      | false =>
        simp only [Bool.false_eq_true, if_false] at q9 ⊢
        exact fin I9 q9
      | true =>
        simp only [if_true] at q9 ⊢
        refine thn (pe.run _ s9 σ8 H9 _ I9 q9) fun z s10 ⟨yv, H10, I10, r10, acc, hD10, hz10, nx⟩ => ?_
        exact app_ok (X := bx X s3 H3 scope ce fp xe) I10 hD10 hz10 r10 fun s11 I11 => fin I11 nx
  exact codeAny_compStart_list loop (T.self X.A 0 _ _ _ st4 loop)
end El

set_option Elab.async false
set_option linter.all false
set_option maxRecDepth 100000
set_option maxHeartbeats 4000000
namespace K07
open PySem PySem.Spec PyProof.Rows L2 El NdefX
def topS (i : Nat) : Stmt := PySem.Challenge.pw_elseput_k07_condition_read_refused.main.body.getD i (.Pass ⟨0, 0, 0, 0⟩)
abbrev s_is_name : Stmt := topS 17
theorem sc_is_name : FnScope ["text", "letter"] ["text"] (defScope s_is_name) := ⟨rfl, rfl, rfl, by decide +kernel, rfl, by decide +kernel, by decide +kernel⟩

abbrev s_split_line : Stmt := topS 18
theorem sc_split_line : FnScope ["line", "number", "found", "at", "end"] ["line", "number"] (defScope s_split_line) := ⟨rfl, rfl, rfl, by decide +kernel, rfl, by decide +kernel, by decide +kernel⟩

abbrev s_token_end : Stmt := topS 19
theorem sc_token_end : FnScope ["line", "at", "piece", "end"] ["line", "at"] (defScope s_token_end) := ⟨rfl, rfl, rfl, by decide +kernel, rfl, by decide +kernel, by decide +kernel⟩

abbrev s_run_end : Stmt := topS 20
theorem sc_run_end : FnScope ["line", "at", "characters", "end"] ["line", "at", "characters"] (defScope s_run_end) := ⟨rfl, rfl, rfl, by decide +kernel, rfl, by decide +kernel, by decide +kernel⟩

abbrev s_in_bound : Stmt := topS 23
theorem sc_in_bound : FnScope ["value"] ["value"] (defScope s_in_bound) := ⟨rfl, rfl, rfl, by decide +kernel, rfl, by decide +kernel, by decide +kernel⟩

abbrev s_check_name : Stmt := topS 24
theorem sc_check_name : FnScope ["text"] ["text"] (defScope s_check_name) := ⟨rfl, rfl, rfl, by decide +kernel, rfl, by decide +kernel, by decide +kernel⟩

abbrev s_check_number : Stmt := topS 25
theorem sc_check_number : FnScope ["value"] ["value"] (defScope s_check_number) := ⟨rfl, rfl, rfl, by decide +kernel, rfl, by decide +kernel, by decide +kernel⟩

abbrev s_is_integer : Stmt := topS 28
theorem sc_is_integer : FnScope ["token"] ["token"] (defScope s_is_integer) := ⟨rfl, rfl, rfl, by decide +kernel, rfl, by decide +kernel, by decide +kernel⟩

abbrev s_comparisons : Stmt := topS 36
theorem sc_comparisons : FnScope ["tree", "branch", "part"] ["tree"] (defScope s_comparisons) := ⟨rfl, rfl, rfl, by decide +kernel, rfl, by decide +kernel, by decide +kernel⟩

abbrev s_joined : Stmt := topS 37
theorem sc_joined : FnScope ["word", "left", "right", "tree"] ["word", "left", "right"] (defScope s_joined) := ⟨rfl, rfl, rfl, by decide +kernel, rfl, by decide +kernel, by decide +kernel⟩

abbrev s_joined_tree : Stmt := topS 38
theorem sc_joined_tree : FnScope ["word", "left", "right", "deciding", "idle"] ["word", "left", "right"] (defScope s_joined_tree) := ⟨rfl, rfl, rfl, by decide +kernel, rfl, by decide +kernel, by decide +kernel⟩

abbrev s_opposite : Stmt := topS 39
theorem sc_opposite : FnScope ["tree", "word"] ["tree"] (defScope s_opposite) := ⟨rfl, rfl, rfl, by decide +kernel, rfl, by decide +kernel, by decide +kernel⟩

abbrev s_parse_condition : Stmt := topS 44
theorem sc_parse_condition : FnScope ["reader", "depth", "parts"] ["reader", "depth"] (defScope s_parse_condition) := ⟨rfl, rfl, rfl, by decide +kernel, rfl, by decide +kernel, by decide +kernel⟩

abbrev s_parse_conjunction : Stmt := topS 45
theorem sc_parse_conjunction : FnScope ["reader", "depth", "parts"] ["reader", "depth"] (defScope s_parse_conjunction) := ⟨rfl, rfl, rfl, by decide +kernel, rfl, by decide +kernel, by decide +kernel⟩

abbrev s_parse_factor : Stmt := topS 46
theorem sc_parse_factor : FnScope ["reader", "depth", "field", "sign", "inner"] ["reader", "depth"] (defScope s_parse_factor) := ⟨rfl, rfl, rfl, by decide +kernel, rfl, by decide +kernel, by decide +kernel⟩

abbrev s_build_condition : Stmt := topS 47
theorem sc_build_condition : FnScope ["parsed", "word", "part"] ["parsed"] (defScope s_build_condition) := ⟨rfl, rfl, rfl, by decide +kernel, rfl, by decide +kernel, by decide +kernel⟩

abbrev s_join_all : Stmt := topS 48
theorem sc_join_all : FnScope ["word", "parts", "whole", "part"] ["word", "parts"] (defScope s_join_all) := ⟨rfl, rfl, rfl, by decide +kernel, rfl, by decide +kernel, by decide +kernel⟩

abbrev s__law_state : Stmt := topS 50
theorem sc__law_state : FnScope ["_law_script"] ["_law_script"] (defScope s__law_state) := ⟨rfl, rfl, rfl, by decide +kernel, rfl, by decide +kernel, by decide +kernel⟩

abbrev s__law_draw : Stmt := topS 51
theorem sc__law_draw : FnScope ["_law_state_here", "_law_many", "_law_first", "_law_second", "_law_third", "_law_digit"] ["_law_state_here", "_law_many"] (defScope s__law_draw) := ⟨rfl, rfl, rfl, by decide +kernel, rfl, by decide +kernel, by decide +kernel⟩

abbrev s__law_pick : Stmt := topS 52
theorem sc__law_pick : FnScope ["_law_state_here", "_law_row"] ["_law_state_here", "_law_row"] (defScope s__law_pick) := ⟨rfl, rfl, rfl, by decide +kernel, rfl, by decide +kernel, by decide +kernel⟩

abbrev s__law_number : Stmt := topS 53
theorem sc__law_number : FnScope ["_law_state_here", "_law_kind"] ["_law_state_here"] (defScope s__law_number) := ⟨rfl, rfl, rfl, by decide +kernel, rfl, by decide +kernel, by decide +kernel⟩

abbrev s__law_constant : Stmt := topS 54
theorem sc__law_constant : FnScope ["_law_state_here"] ["_law_state_here"] (defScope s__law_constant) := ⟨rfl, rfl, rfl, by decide +kernel, rfl, by decide +kernel, by decide +kernel⟩

abbrev s__law_names : Stmt := topS 55
theorem sc__law_names : FnScope ["_law_state_here", "_law_many", "_law_letters", "_law_style", "_law_shift", "_law_code", "_law_spot", "_law_base", "_law_k", "_law_reserved", "_law_result", "_law_word"] ["_law_state_here", "_law_many"] (defScope s__law_names) := ⟨rfl, rfl, rfl, by decide +kernel, rfl, by decide +kernel, by decide +kernel⟩

abbrev s__law_is_int : Stmt := topS 56
theorem sc__law_is_int : FnScope ["_law_thing"] ["_law_thing"] (defScope s__law_is_int) := ⟨rfl, rfl, rfl, by decide +kernel, rfl, by decide +kernel, by decide +kernel⟩

abbrev s__law_same : Stmt := topS 57
theorem sc__law_same : FnScope ["_law_actual", "_law_due", "_law_k", "_law_key"] ["_law_actual", "_law_due"] (defScope s__law_same) := ⟨rfl, rfl, rfl, by decide +kernel, rfl, by decide +kernel, by decide +kernel⟩

abbrev s__law_joined : Stmt := topS 58
theorem sc__law_joined : FnScope ["_law_parts", "_law_gap", "_law_line", "_law_columns", "_law_part"] ["_law_parts", "_law_gap"] (defScope s__law_joined) := ⟨rfl, rfl, rfl, by decide +kernel, rfl, by decide +kernel, by decide +kernel⟩

abbrev s__law_leaves : Stmt := topS 59
theorem sc__law_leaves : FnScope ["_law_state_here", "_law_fields", "_law_many", "_law_result", "_law_k", "_law_sign"] ["_law_state_here", "_law_fields", "_law_many"] (defScope s__law_leaves) := ⟨rfl, rfl, rfl, by decide +kernel, rfl, by decide +kernel, by decide +kernel⟩

abbrev s__law_opposite : Stmt := topS 60
theorem sc__law_opposite : FnScope ["_law_tree", "_law_word", "_law_signs", "_law_turned"] ["_law_tree"] (defScope s__law_opposite) := ⟨rfl, rfl, rfl, by decide +kernel, rfl, by decide +kernel, by decide +kernel⟩

abbrev s__law_read_it : Stmt := topS 61
theorem sc__law_read_it : FnScope ["_law_line", "e"] ["_law_line"] (defScope s__law_read_it) := ⟨rfl, rfl, rfl, by decide +kernel, rfl, by decide +kernel, by decide +kernel⟩

abbrev s__law_chain : Stmt := topS 62
theorem sc__law_chain : FnScope ["_law_comps", "_law_joiners", "_law_words", "_law_k"] ["_law_comps", "_law_joiners"] (defScope s__law_chain) := ⟨rfl, rfl, rfl, by decide +kernel, rfl, by decide +kernel, by decide +kernel⟩

abbrev s__law_chain_due : Stmt := topS 63
theorem sc__law_chain_due : FnScope ["_law_comps", "_law_joiners", "_law_parts", "_law_k", "_law_tree", "_law_part"] ["_law_comps", "_law_joiners"] (defScope s__law_chain_due) := ⟨rfl, rfl, rfl, by decide +kernel, rfl, by decide +kernel, by decide +kernel⟩

abbrev s__law_unfit : Stmt := topS 64
theorem sc__law_unfit : FnScope ["_law_at", "_law_words", "_law_far"] ["_law_at"] (defScope s__law_unfit) := ⟨rfl, rfl, rfl, by decide +kernel, rfl, by decide +kernel, by decide +kernel⟩

abbrev s__law_asks : Stmt := topS 65
theorem sc__law_asks : FnScope ["_law_state_here", "_law_words", "_law_at", "_law_lead", "_law_line", "_law_columns"] ["_law_state_here", "_law_words", "_law_at"] (defScope s__law_asks) := ⟨rfl, rfl, rfl, by decide +kernel, rfl, by decide +kernel, by decide +kernel⟩

abbrev s__law_lets : Stmt := topS 66
theorem sc__law_lets : FnScope ["_law_state_here", "_law_words", "_law_due", "_law_line", "_law_columns"] ["_law_state_here", "_law_words", "_law_due"] (defScope s__law_lets) := ⟨rfl, rfl, rfl, by decide +kernel, rfl, by decide +kernel, by decide +kernel⟩

abbrev s__law_spoils : Stmt := topS 67
theorem sc__law_spoils : FnScope ["_law_state_here", "_law_words", "_law_i", "_law_others", "_law_at", "_law_k", "_law_spot", "_law_spoiled"] ["_law_state_here", "_law_words", "_law_i"] (defScope s__law_spoils) := ⟨rfl, rfl, rfl, by decide +kernel, rfl, by decide +kernel, by decide +kernel⟩

abbrev s__law_deep : Stmt := topS 68
theorem sc__law_deep : FnScope ["_law_state_here", "_law_comps", "_law_code", "_law_opens", "_law_closers", "_law_tree", "_law_k", "_law_inner", "_law_words"] ["_law_state_here", "_law_comps"] (defScope s__law_deep) := ⟨rfl, rfl, rfl, by decide +kernel, rfl, by decide +kernel, by decide +kernel⟩

abbrev s_law : Stmt := topS 69
theorem sc_law : FnScope ["_law_script", "_law_state_here", "_law_fields", "_law_comps", "_law_joiners", "_law_many", "_law_size", "_law_words", "_law_k"] ["_law_script"] (defScope s_law) := ⟨rfl, rfl, rfl, by decide +kernel, rfl, by decide +kernel, by decide +kernel⟩

abbrev s_Reader___init__ : Stmt := mthS (topS 29) 0
theorem sc_Reader___init__ : FnScope ["self", "line", "number"] ["self", "line", "number"] (defScope s_Reader___init__) := ⟨rfl, rfl, rfl, by decide +kernel, rfl, by decide +kernel, by decide +kernel⟩

abbrev s_Reader_at_end : Stmt := mthS (topS 29) 1
theorem sc_Reader_at_end : FnScope ["self"] ["self"] (defScope s_Reader_at_end) := ⟨rfl, rfl, rfl, by decide +kernel, rfl, by decide +kernel, by decide +kernel⟩

abbrev s_Reader_ahead : Stmt := mthS (topS 29) 2
theorem sc_Reader_ahead : FnScope ["self"] ["self"] (defScope s_Reader_ahead) := ⟨rfl, rfl, rfl, by decide +kernel, rfl, by decide +kernel, by decide +kernel⟩

abbrev s_Reader_skip : Stmt := mthS (topS 29) 3
theorem sc_Reader_skip : FnScope ["self", "token"] ["self", "token"] (defScope s_Reader_skip) := ⟨rfl, rfl, rfl, by decide +kernel, rfl, by decide +kernel, by decide +kernel⟩

abbrev s_Reader_take_name : Stmt := mthS (topS 29) 4
theorem sc_Reader_take_name : FnScope ["self"] ["self"] (defScope s_Reader_take_name) := ⟨rfl, rfl, rfl, by decide +kernel, rfl, by decide +kernel, by decide +kernel⟩

abbrev s_Reader_take_integer : Stmt := mthS (topS 29) 5
theorem sc_Reader_take_integer : FnScope ["self"] ["self"] (defScope s_Reader_take_integer) := ⟨rfl, rfl, rfl, by decide +kernel, rfl, by decide +kernel, by decide +kernel⟩

abbrev s_Reader_take_one : Stmt := mthS (topS 29) 7
theorem sc_Reader_take_one : FnScope ["self", "words"] ["self", "words"] (defScope s_Reader_take_one) := ⟨rfl, rfl, rfl, by decide +kernel, rfl, by decide +kernel, by decide +kernel⟩

abbrev s_Reader_take_end : Stmt := mthS (topS 29) 8
theorem sc_Reader_take_end : FnScope ["self"] ["self"] (defScope s_Reader_take_end) := ⟨rfl, rfl, rfl, by decide +kernel, rfl, by decide +kernel, by decide +kernel⟩

abbrev s_Reader__take_if : Stmt := mthS (topS 29) 9
theorem sc_Reader__take_if : FnScope ["self", "fits", "token"] ["self", "fits"] (defScope s_Reader__take_if) := ⟨rfl, rfl, rfl, by decide +kernel, rfl, by decide +kernel, by decide +kernel⟩

abbrev s_Reader__refuse : Stmt := mthS (topS 29) 10
theorem sc_Reader__refuse : FnScope ["self", "column"] ["self"] (defScope s_Reader__refuse) := ⟨rfl, rfl, rfl, by decide +kernel, rfl, by decide +kernel, by decide +kernel⟩

abbrev s_Condition___init__ : Stmt := mthS (topS 35) 1
theorem sc_Condition___init__ : FnScope ["self", "tree", "part"] ["self", "tree"] (defScope s_Condition___init__) := ⟨rfl, rfl, rfl, by decide +kernel, rfl, by decide +kernel, by decide +kernel⟩

abbrev s_Condition_always : Stmt := mthS (topS 35) 2
theorem sc_Condition_always : FnScope [] [] (defScope s_Condition_always) := ⟨rfl, rfl, rfl, by decide +kernel, rfl, by decide +kernel, by decide +kernel⟩

abbrev s_Condition_never : Stmt := mthS (topS 35) 3
theorem sc_Condition_never : FnScope [] [] (defScope s_Condition_never) := ⟨rfl, rfl, rfl, by decide +kernel, rfl, by decide +kernel, by decide +kernel⟩

abbrev s_Condition_compare : Stmt := mthS (topS 35) 4
theorem sc_Condition_compare : FnScope ["field", "sign", "number"] ["field", "sign", "number"] (defScope s_Condition_compare) := ⟨rfl, rfl, rfl, by decide +kernel, rfl, by decide +kernel, by decide +kernel⟩

abbrev s_Condition_read : Stmt := mthS (topS 35) 5
theorem sc_Condition_read : FnScope ["line", "reader", "parsed"] ["line"] (defScope s_Condition_read) := ⟨rfl, rfl, rfl, by decide +kernel, rfl, by decide +kernel, by decide +kernel⟩

abbrev s_Condition___and__ : Stmt := mthS (topS 35) 10
theorem sc_Condition___and__ : FnScope ["self", "other"] ["self", "other"] (defScope s_Condition___and__) := ⟨rfl, rfl, rfl, by decide +kernel, rfl, by decide +kernel, by decide +kernel⟩

abbrev s_Condition___or__ : Stmt := mthS (topS 35) 11
theorem sc_Condition___or__ : FnScope ["self", "other"] ["self", "other"] (defScope s_Condition___or__) := ⟨rfl, rfl, rfl, by decide +kernel, rfl, by decide +kernel, by decide +kernel⟩

abbrev s_Condition___invert__ : Stmt := mthS (topS 35) 12
theorem sc_Condition___invert__ : FnScope ["self"] ["self"] (defScope s_Condition___invert__) := ⟨rfl, rfl, rfl, by decide +kernel, rfl, by decide +kernel, by decide +kernel⟩

abbrev s_BadName : Stmt := mthS (topS 3) 0
theorem sc_BadName : NdefX.NScope ["self", "name", "__class__"] ["self", "name"] ["__class__"] (defScope s_BadName) := NdefX.nscope_by (by decide +kernel)
abbrev s_BadNumber : Stmt := mthS (topS 4) 0
theorem sc_BadNumber : NdefX.NScope ["self", "value", "__class__"] ["self", "value"] ["__class__"] (defScope s_BadNumber) := NdefX.nscope_by (by decide +kernel)
abbrev s_BadSign : Stmt := mthS (topS 5) 0
theorem sc_BadSign : NdefX.NScope ["self", "sign", "__class__"] ["self", "sign"] ["__class__"] (defScope s_BadSign) := NdefX.nscope_by (by decide +kernel)
abbrev s_BadText : Stmt := mthS (topS 6) 0
theorem sc_BadText : NdefX.NScope ["self", "line", "column", "__class__"] ["self", "line", "column"] ["__class__"] (defScope s_BadText) := NdefX.nscope_by (by decide +kernel)
abbrev s_TooLarge : Stmt := mthS (topS 7) 0
theorem sc_TooLarge : NdefX.NScope ["self", "most", "__class__"] ["self", "most"] ["__class__"] (defScope s_TooLarge) := NdefX.nscope_by (by decide +kernel)
abbrev s_UnknownName : Stmt := mthS (topS 8) 0
theorem sc_UnknownName : NdefX.NScope ["self", "name", "__class__"] ["self", "name"] ["__class__"] (defScope s_UnknownName) := NdefX.nscope_by (by decide +kernel)
section
variable {P : Program} {w : World} {K : PySem.W.Frag} {mg : Str → Option Value} {base : Heap}
variable {t_BOUND t_DIGITS t_LETTERS t_LONGEST_INTEGER t_LONGEST_NAME t_MOST_NESTED : Tok} {a_ALWAYS a_MARKS a_NEVER a_OPPOSITES a_RESERVED a_SIGNS a_BadName a_BadNumber a_BadSign a_BadText a_Condition a_ElseputError a_Reader a_TooLarge : Addr}
structure Gs (K : PySem.W.Frag) (mg : Str → Option Value) (t_BOUND t_DIGITS t_LETTERS t_LONGEST_INTEGER t_LONGEST_NAME t_MOST_NESTED : Tok) (a_ALWAYS a_MARKS a_NEVER a_OPPOSITES a_RESERVED a_SIGNS a_BadName a_BadNumber a_BadSign a_BadText a_Condition a_ElseputError a_Reader a_TooLarge : Addr) : Prop where
  z_ValueError : mg "ValueError" = none
  z_all : mg "all" = none
  z_bool : mg "bool" = none
  z_dict : mg "dict" = none
  z_int : mg "int" = none
  z_isinstance : mg "isinstance" = none
  z_len : mg "len" = none
  z_list : mg "list" = none
  z_range : mg "range" = none
  z_sorted : mg "sorted" = none
  z_staticmethod : mg "staticmethod" = none
  z_str : mg "str" = none
  z_super : mg "super" = none
  z_tuple : mg "tuple" = none
  g_BOUND : mg "BOUND" = some (.int 1000000000000000000000000000000 t_BOUND)
  g_DIGITS : mg "DIGITS" = some (.str "0123456789" t_DIGITS)
  g_LETTERS : mg "LETTERS" = some (.str "abcdefghijklmnopqrstuvwxyz" t_LETTERS)
  g_LONGEST_INTEGER : mg "LONGEST_INTEGER" = some (.int 32 t_LONGEST_INTEGER)
  g_LONGEST_NAME : mg "LONGEST_NAME" = some (.int 12 t_LONGEST_NAME)
  g_MOST_NESTED : mg "MOST_NESTED" = some (.int 20 t_MOST_NESTED)
  g_ALWAYS : mg "ALWAYS" = some (.ref a_ALWAYS)
  q_ALWAYS : ∀ H, SqT K H a_ALWAYS [(.str "always")]
  g_MARKS : mg "MARKS" = some (.ref a_MARKS)
  q_MARKS : ∀ H, SqT K H a_MARKS [(.str "("), (.str ")"), (.str ","), (.str ";"), (.str ":")]
  g_NEVER : mg "NEVER" = some (.ref a_NEVER)
  q_NEVER : ∀ H, SqT K H a_NEVER [(.str "never")]
  g_OPPOSITES : mg "OPPOSITES" = some (.ref a_OPPOSITES)
  g_RESERVED : mg "RESERVED" = some (.ref a_RESERVED)
  q_RESERVED : ∀ H, SqT K H a_RESERVED [(.str "always"), (.str "never"), (.str "and"), (.str "or"), (.str "not"), (.str "when"), (.str "add"), (.str "set"), (.str "change"), (.str "tell"), (.str "refuse"), (.str "take"), (.str "look"), (.str "free"), (.str "lock"), (.str "keep"), (.str "keys"), (.str "fields")]
  g_SIGNS : mg "SIGNS" = some (.ref a_SIGNS)
  q_SIGNS : ∀ H, SqT K H a_SIGNS [(.str "<"), (.str "<="), (.str "=="), (.str "!="), (.str ">="), (.str ">")]
  g_BadName : mg "BadName" = some (.ref a_BadName)
  n_BadName : PySem.W.nsIn K mainGlobals "BadName" = some (some (.ref a_BadName))
  x_BadName : ExV K a_BadName ["name"]
  g_BadNumber : mg "BadNumber" = some (.ref a_BadNumber)
  n_BadNumber : PySem.W.nsIn K mainGlobals "BadNumber" = some (some (.ref a_BadNumber))
  x_BadNumber : ExV K a_BadNumber ["value"]
  g_BadSign : mg "BadSign" = some (.ref a_BadSign)
  n_BadSign : PySem.W.nsIn K mainGlobals "BadSign" = some (some (.ref a_BadSign))
  x_BadSign : ExV K a_BadSign ["sign"]
  g_BadText : mg "BadText" = some (.ref a_BadText)
  n_BadText : PySem.W.nsIn K mainGlobals "BadText" = some (some (.ref a_BadText))
  x_BadText : ExV K a_BadText ["line", "column"]
  g_Condition : mg "Condition" = some (.ref a_Condition)
  n_Condition : PySem.W.nsIn K mainGlobals "Condition" = some (some (.ref a_Condition))
  g_ElseputError : mg "ElseputError" = some (.ref a_ElseputError)
  n_ElseputError : PySem.W.nsIn K mainGlobals "ElseputError" = some (some (.ref a_ElseputError))
  g_Reader : mg "Reader" = some (.ref a_Reader)
  n_Reader : PySem.W.nsIn K mainGlobals "Reader" = some (some (.ref a_Reader))
  g_TooLarge : mg "TooLarge" = some (.ref a_TooLarge)
  n_TooLarge : PySem.W.nsIn K mainGlobals "TooLarge" = some (some (.ref a_TooLarge))
  x_TooLarge : ExV K a_TooLarge ["most"]
  cl_Reader : Cls K a_Reader
  na_Reader__at : NoAttr K a_Reader "_at"
  na_Reader__end : NoAttr K a_Reader "_end"
  na_Reader__number : NoAttr K a_Reader "_number"
  na_Reader__parts : NoAttr K a_Reader "_parts"
  rd_Reader : ClX.CRead K a_Reader (.type "type")
  cl_Condition : Cls K a_Condition
  na_Condition__fields : NoAttr K a_Condition "_fields"
  na_Condition_tree : NoAttr K a_Condition "tree"
  cv_Condition_MOST : ∃ u, ClX.CVal K a_Condition (.type "type") "MOST" (.int 8) u
  rd_Condition : ClX.CRead K a_Condition (.type "type")
  m_BadName_ElseputError : PySem.W.exmOne K (.ref a_BadName) (.ref a_ElseputError) = some true
  m_BadNumber_ElseputError : PySem.W.exmOne K (.ref a_BadNumber) (.ref a_ElseputError) = some true
  m_BadSign_ElseputError : PySem.W.exmOne K (.ref a_BadSign) (.ref a_ElseputError) = some true
  m_BadText_ElseputError : PySem.W.exmOne K (.ref a_BadText) (.ref a_ElseputError) = some true
  m_TooLarge_ElseputError : PySem.W.exmOne K (.ref a_TooLarge) (.ref a_ElseputError) = some true
  k_BadName_BadText : PySem.W.kitOne K (.ref a_BadName) (.ref a_BadText) = some false
  k_BadName_ValueError : PySem.W.kitOne K (.ref a_BadName) (.type "ValueError") = some true
  k_BadName_TooLarge : PySem.W.kitOne K (.ref a_BadName) (.ref a_TooLarge) = some false
  k_BadNumber_BadText : PySem.W.kitOne K (.ref a_BadNumber) (.ref a_BadText) = some false
  k_BadNumber_ValueError : PySem.W.kitOne K (.ref a_BadNumber) (.type "ValueError") = some true
  k_BadNumber_TooLarge : PySem.W.kitOne K (.ref a_BadNumber) (.ref a_TooLarge) = some false
  k_BadSign_BadText : PySem.W.kitOne K (.ref a_BadSign) (.ref a_BadText) = some false
  k_BadSign_ValueError : PySem.W.kitOne K (.ref a_BadSign) (.type "ValueError") = some true
  k_BadSign_TooLarge : PySem.W.kitOne K (.ref a_BadSign) (.ref a_TooLarge) = some false
  k_BadText_BadText : PySem.W.kitOne K (.ref a_BadText) (.ref a_BadText) = some true
  k_BadText_ValueError : PySem.W.kitOne K (.ref a_BadText) (.type "ValueError") = some true
  k_BadText_TooLarge : PySem.W.kitOne K (.ref a_BadText) (.ref a_TooLarge) = some false
  k_TooLarge_BadText : PySem.W.kitOne K (.ref a_TooLarge) (.ref a_BadText) = some false
  k_TooLarge_ValueError : PySem.W.kitOne K (.ref a_TooLarge) (.type "ValueError") = some true
  k_TooLarge_TooLarge : PySem.W.kitOne K (.ref a_TooLarge) (.ref a_TooLarge) = some true
/-! ### the script's state -/
def stv (scr : Addr) (i v m c : Int) : List V := [.ref scr, .int i, .int v, .int m, .int c]
def DrAt (H : Hp) (st scr : Addr) : Prop := ∃ (ns : List Int) (i v m c : Int), H st = some (.lst (stv scr i v m c)) ∧ H scr = some (.lst (ns.map V.int)) ∧ ns.length ≤ 63 ∧ 0 ≤ i
theorem DrAt.ne {H : Hp} {st scr : Addr} {ns : List Int} {i v m c : Int} (h : H st = some (.lst (stv scr i v m c))) (h2 : H scr = some (.lst (ns.map V.int))) : scr ≠ st := by
  refine ne_of h2 h fun e => ?_
  injection e with e
  cases ns with
  | nil => simp [stv] at e
  | cons a r => simp [stv] at e
theorem DrAt.upd {H : Hp} {st scr : Addr} {ns : List Int} {i v m c i' v' m' c' : Int} (h : H st = some (.lst (stv scr i v m c))) (h2 : H scr = some (.lst (ns.map V.int))) (hl : ns.length ≤ 63) (h0 : 0 ≤ i') : DrAt (upd H st (.lst (stv scr i' v' m' c'))) st scr :=
  ⟨ns, i', v', m', c', upd_same, by rw [upd_ne (DrAt.ne h h2)]; exact h2, hl, h0⟩
theorem upd_id {H : Hp} {a : Addr} {o : HO} (h : H a = some o) : upd H a o = H := by
  funext b
  unfold L2.upd
  split
  · rename_i e; rw [e, h]
  · rfl
theorem DrAt.lst {H : Hp} {st scr : Addr} (h : DrAt H st scr) : ∃ l, H st = some (.lst l) := by
  obtain ⟨ns, i, v, m, c, h, _⟩ := h
  exact ⟨_, h⟩
theorem DrAt.new {H H' : Hp} {st scr : Addr} (h : DrAt H st scr) (s : Same H H') : DrAt H' st scr := by
  obtain ⟨ns, i, v, m, c, h1, h2, h3⟩ := h
  exact ⟨ns, i, v, m, c, s _ _ h1, s _ _ h2, h3⟩
theorem DrAt.at {H : Hp} {st scr p : Addr} {o : HO} (h : DrAt H st scr) (h1 : p ≠ st) (h2 : p ≠ scr) : DrAt (L2.upd H p o) st scr := by
  obtain ⟨ns, i, v, m, c, e1, e2, h3⟩ := h
  exact ⟨ns, i, v, m, c, by rw [upd_ne h1.symm]; exact e1, by rw [upd_ne h2.symm]; exact e2, h3⟩
theorem same_new {H : Hp} {p : Addr} {o : HO} (h : H p = none) : Same H (upd H p o) := fun b u q => by rw [upd_ne (ne_of_none q h)]; exact q
theorem free_new {H : Hp} {p q : Addr} {o : HO} (h : upd H p o q = none) : H q = none := by
  unfold L2.upd at h
  split at h
  · cases h
  · exact h
theorem new_ne {H : Hp} {p q : Addr} {o : HO} (h : upd H p o q = none) : q ≠ p := fun e => by rw [e, upd_same] at h; cases h
theorem len_add (a b : Str) : (a ++ b).length = a.length + b.length := by
  show (a.cps ++ b.cps).size = _
  rw [Array.size_append]
  rfl
theorem cps_add (a b : Str) : (a ++ b).cps.toList = a.cps.toList ++ b.cps.toList := by
  show (a.cps ++ b.cps).toList = _
  rw [Array.toList_append]
theorem len_cps (z : Str) : z.cps.toList.length = z.length := Array.length_toList
theorem line_of {n : Nat} (h : n ≤ 100000) : n ≤ sizeLine := Nat.le_trans h (by decide)
theorem line_lt {n : Nat} (h : n < 100000) : n < sizeLine := Nat.lt_of_lt_of_le h (by decide)
/-- all that stood stands, st's own numbers aside -/
def Bt (st : Addr) (H H' : Hp) : Prop := ∀ b o, b ≠ st → H b = some o → H' b = some o
theorem Bt.refl (st : Addr) (H : Hp) : Bt st H H := fun _ _ _ h => h
theorem Bt.trans {st : Addr} {H H1 H2 : Hp} (a : Bt st H H1) (b : Bt st H1 H2) : Bt st H H2 := fun c o n h => b c o n (a c o n h)
theorem Bt.same {st : Addr} {H H' : Hp} (s : Same H H') : Bt st H H' := fun b o _ h => s b o h
theorem Bt.st {st : Addr} {H : Hp} {o : HO} : Bt st H (upd H st o) := fun b u n h => by rw [upd_ne n]; exact h
theorem Bt.free {st : Addr} {H H' : Hp} (s : Bt st H H') {l : Addr} (n : l ≠ st) (h : H' l = none) : H l = none := by
  cases q : H l with
  | none => rfl
  | some o => rw [s l o n q] at h; cases h
theorem DrAt.ne_new {H : Hp} {st scr p : Addr} (h : DrAt H st scr) (n : H p = none) : p ≠ st := by
  obtain ⟨l, e⟩ := h.lst
  exact (ne_of_none e n).symm

theorem DrAt.ne_scr {H : Hp} {st scr p : Addr} (h : DrAt H st scr) (n : H p = none) : p ≠ scr := by
  obtain ⟨ns, i, v, m, c, e1, e2, h3⟩ := h
  exact (ne_of_none e2 n).symm

/-! ### is_name -/
abbrev letters : Str := "abcdefghijklmnopqrstuvwxyz"
abbrev resv : List V := [.str "always", .str "never", .str "and", .str "or", .str "not", .str "when", .str "add", .str "set", .str "change", .str "tell", .str "refuse", .str "take", .str "look", .str "free", .str "lock", .str "keep", .str "keys", .str "fields"]
def isName (z : Str) : Bool := if (decide ((z.length : Int) < 1) || decide ((12 : Int) < z.length) || inV (.str z) resv) = true then false else z.cps.toList.all fun c => decide (c ∈ letters.cps.toList)
def sp_is_name (K : PySem.W.Frag) : Sp := fun vs H Q _ => ∃ z : Str, vs = [.str z] ∧ z.length ≤ 1000 ∧ ∀ H', Same H H' → Q (.bl (isName z)) H'
theorem len_is_name {vs : List V} {H : Hp} {Q : VK} {E : XK} (h : sp_is_name K vs H Q E) : vs.length = 1 := by
  obtain ⟨_, rfl, _⟩ := h
  rfl
theorem ok_is_name {f : Addr} {fd : FuncData} (F : Fun K "is_name" "is_name" s_is_name f fd) (T : Gs K mg t_BOUND t_DIGITS t_LETTERS t_LONGEST_INTEGER t_LONGEST_NAME t_MOST_NESTED a_ALWAYS a_MARKS a_NEVER a_OPPOSITES a_RESERVED a_SIGNS a_BadName a_BadNumber a_BadSign a_BadText a_Condition a_ElseputError a_Reader a_TooLarge) : FnOk P w K mg base CX0 1 f fd ["text"] (sp_is_name K) := by
  refine F.ok sc_is_name (fun vs H Q E h => len_is_name h) (fun cdv A outer s H vs Q E hr h => ?_)
  obtain ⟨z, rfl, h0, q⟩ := h
  refine ⟨_, (pss_cons (ps_if (PW.pt (pw_or (pt_c op_ltM (pe_callB (lenK K) (by rfl) T.z_len PySem.boot_len (pa_cons (v_ 0) pa_nil)) pe_int) (pw_or (pt_c op_gtM (pe_callB (lenK K) (by rfl) T.z_len PySem.boot_len (pa_cons (v_ 0) pa_nil)) (pe_glob (v := .int 12) rfl T.g_LONGEST_NAME ⟨_, rfl⟩)) (pw_or1 (pt_c (inK K) (v_ 0) (pe_glob (v := .ref a_RESERVED) rfl T.g_RESERVED rfl)))))) (pss_one (ps_ret pe_bl)) pss_nil) (pss_one (ps_ret (pe_callB (allK K rfl) (by rfl) T.z_all (by decide +kernel) (pa_cons (pe_lc (own := [("letter", 1)]) (g := gName 1) (by rfl) sc_is_name.nd (pi_str (v_ 0)) (blkOk_by (N := ["text", "letter"]) (sc := defScope s_is_name) (by decide +kernel)) (fun _ _ _ _ _ => pg_name (i := 1) sc_is_name.nd rfl (Or.inl rfl)) (fun _ _ _ _ _ => pts_nil) (fun _ _ _ _ _ => (pe_c (inK K) (v_ 1) (pe_glob (v := .str "abcdefghijklmnopqrstuvwxyz") rfl T.g_LETTERS ⟨_, rfl⟩)))) pa_nil))))), ?_⟩
  refine ⟨line_of (by omega), ?_⟩
  have no : ∀ c : Bool, (decide ((z.length : Int) < 1) || decide ((12 : Int) < z.length) || inV (.str z) resv) = c → isName z = if c = true then false else z.cps.toList.all fun c => decide (c ∈ letters.cps.toList) := fun c e => by
    rw [← e]; rfl
  refine ite2 (fun e => ?_) (fun e => ?_)
  · have := q H (Same.refl H)
    rw [no true (by rw [show decide ((z.length : Int) < 1) = true from e]; rfl)] at this
    exact this
  refine ⟨line_of (by omega), ?_⟩
  refine ite2 (fun e1 => ?_) (fun e1 => ?_)
  · have := q H (Same.refl H)
    rw [no true (by rw [show decide ((12 : Int) < z.length) = true from e1, Bool.or_true]; rfl)] at this
    exact this
  refine ⟨_, .inr (T.q_RESERVED _), rfl, rfl, ?_⟩
  refine ite2 (fun e2 => ?_) (fun e2 => ?_)
  · have := q H (Same.refl H)
    rw [no true (by rw [show inV (.str z) resv = true from e2, Bool.or_true])] at this
    exact this
  have en : isName z = z.cps.toList.all fun c => decide (c ∈ letters.cps.toList) := by
    rw [no false (by rw [show decide ((z.length : Int) < 1) = false from Bool.eq_false_iff.mpr e, show decide ((12 : Int) < z.length) = false from Bool.eq_false_iff.mpr e1, show inV (.str z) resv = false from Bool.eq_false_iff.mpr e2]; rfl)]
    rfl
  refine ⟨z, rfl, fun D nD => lc_it walk_str (fun i H' => H' = upd H D (.lst (((z.cps.toList.take i).map fun c => decide (c ∈ letters.cps.toList)).map V.bl))) rfl (fun _ _ _ _ => True.intro) ?_ ?_⟩
  · rintro i x H1 H2 hi rfl ⟨rfl, c, hc, rfl⟩
    refine ⟨rfl, ?_⟩
    refine ⟨c, rfl, _, upd_same, ?_, ?_⟩
    · rw [List.length_map, List.length_map, List.length_take]
      have : z.cps.size = z.length := rfl
      exact small1000 (by omega)
    · rw [upd_upd]
      have e : z.cps.toList.take (i + 1) = z.cps.toList.take i ++ [c] := by
        rw [List.take_add_one, Array.getElem?_toList, hc]
        rfl
      rw [e, List.map_append, List.map_append]
      rfl
  · rintro H1 rfl
    rw [show z.cps.size = z.cps.toList.length from (Array.length_toList).symm, List.take_length]
    refine ⟨_, _, rfl, SqL.of upd_same, ?_⟩
    have := q _ (same_new nD (o := .lst ((z.cps.toList.map fun c => decide (c ∈ letters.cps.toList)).map V.bl)))
    rw [en] at this
    rw [List.all_map]
    exact this
end
section
variable {P : Program} {w : World} {K : PySem.W.Frag} {mg : Str → Option Value} {base : Heap}
variable {t_BOUND t_DIGITS t_LETTERS t_LONGEST_INTEGER t_LONGEST_NAME t_MOST_NESTED : Tok} {a_ALWAYS a_MARKS a_NEVER a_OPPOSITES a_RESERVED a_SIGNS a_BadName a_BadNumber a_BadSign a_BadText a_Condition a_ElseputError a_Reader a_TooLarge : Addr}
theorem str_eq {a b : Str} : a = b ↔ a.cps.toList = b.cps.toList := by
  constructor
  · intro h
    rw [h]
  · intro h
    have := Array.toList_inj.mp h
    cases a
    cases b
    exact congrArg Str.mk this
/-! ### checks -/
theorem isName_mem {z : Str} (h : isName z = true) : (∀ c ∈ z.cps.toList, c ∈ letters.cps.toList) ∧ 1 ≤ z.length ∧ z.length ≤ 12 ∧ inV (.str z) resv = false := by
  unfold isName at h
  split at h
  · exact absurd h (by decide)
  · rename_i hc
    rw [Bool.not_eq_true, Bool.or_eq_false_iff, Bool.or_eq_false_iff, decide_eq_false_iff_not, decide_eq_false_iff_not] at hc
    exact ⟨fun c hm => of_decide_eq_true (List.all_eq_true.mp h c hm), by omega, by omega, hc.2⟩
theorem letters_small : ∀ c ∈ letters.cps.toList, c < 16 ^ 8 := by decide +kernel
theorem isName_asc {z : Str} (h : isName z = true) : Asc z := fun c hc => letters_small c ((isName_mem h).1 c hc)
def inB (i : Int) : Bool := decide (-1000000000000000000000000000000 ≤ i) && decide (i ≤ 1000000000000000000000000000000)
def BadN (K : PySem.W.Frag) (H : Hp) (z : Str) (E : XK) : Prop := ∀ (C d : Addr) (H' : Hp), PySem.W.nsIn K mainGlobals "BadName" = some (some (.ref C)) → Same H H' → H d = none → H' d = some (.xd [("name", .str z)]) → E (.ref C) (some d) H'
def BadI (K : PySem.W.Frag) (H : Hp) (i : Int) (E : XK) : Prop := ∀ (C d : Addr) (H' : Hp), PySem.W.nsIn K mainGlobals "BadNumber" = some (some (.ref C)) → Same H H' → H d = none → H' d = some (.xd [("value", .int i)]) → E (.ref C) (some d) H'
def BadS (K : PySem.W.Frag) (H : Hp) (z : Str) (E : XK) : Prop := ∀ (C d : Addr) (H' : Hp), PySem.W.nsIn K mainGlobals "BadSign" = some (some (.ref C)) → Same H H' → H d = none → H' d = some (.xd [("sign", .str z)]) → E (.ref C) (some d) H'
theorem BadS.same {K : PySem.W.Frag} {H H1 : Hp} {z : Str} {E : XK} (h : BadS K H z E) (s : Same H H1) : BadS K H1 z E := fun C d H' hC s2 nd hd => h C d H' hC (s.trans s2) (Same.free s nd) hd
theorem BadN.same {K : PySem.W.Frag} {H H1 : Hp} {z : Str} {E : XK} (h : BadN K H z E) (s : Same H H1) : BadN K H1 z E := fun C d H' hC s2 nd hd => h C d H' hC (s.trans s2) (Same.free s nd) hd
theorem BadI.same {K : PySem.W.Frag} {H H1 : Hp} {z : Int} {E : XK} (h : BadI K H z E) (s : Same H H1) : BadI K H1 z E := fun C d H' hC s2 nd hd => h C d H' hC (s.trans s2) (Same.free s nd) hd
def okx_BadName (ws : List V) : Prop := ∃ z : Str, ws = [.str z] ∧ z.length ≤ 1000 ∧ Asc z
def fs_BadName (ws : List V) : List (Str × V) := match ws with | [l] => [("name", l)] | _ => []
def okx_BadSign (ws : List V) : Prop := okx_BadName ws
def fs_BadSign (ws : List V) : List (Str × V) := match ws with | [l] => [("sign", l)] | _ => []
def okx_BadNumber (ws : List V) : Prop := ∃ l : Int, ws = [.int l] ∧ l.natAbs < 2 ^ 200
def fs_BadNumber (ws : List V) : List (Str × V) := match ws with | [l] => [("value", l)] | _ => []
theorem len_spE {C : Addr} {ok : List V → Prop} {fs : List V → List (Str × V)} {n : Nat} (hn : ∀ ws, ok ws → ws.length = n) {vs : List V} {H : Hp} {Q : VK} {E : XK} (h : spE C ok fs vs H Q E) : vs.length = n + 1 := by
  obtain ⟨a, ws, rfl, h, _⟩ := h
  rw [List.length_cons, hn _ h]
theorem log_200 {i : Int} (h : i.natAbs < 2 ^ 200) : i.natAbs.log2 < 1920 := by
  by_cases hz : i.natAbs = 0
  · rw [hz]
    decide
  · exact (Nat.log2_lt hz).mpr (Nat.lt_of_lt_of_le h (Nat.pow_le_pow_right (by decide) (by decide)))
theorem ok_BadName {C f cc cda : Addr} {doc pm ct oc ccl cl : Value} {od cdd cld : Option Addr} {osl ccs csl : Array (Option Value)} {vs0 : Array Value} {file : Str} {tf : Tok} {cdD : ClassData}
    (X : ExK K C f ["name"]) (lk : K.lookup f = some ⟨oc, od, .func (PySem.W.fnX "__init__" "BadName.__init__" (defArgs s_BadName) (defBody s_BadName) (defScope s_BadName) [("__class__", cc)] .none .none doc pm none (.ref cda) ct), osl⟩)
    (hcd : PySem.W.codeIn K (.ref cda) "BadName.__init__" = true) (hcode : K.lookup cda = some ⟨ccl, cdd, .fields vs0, ccs⟩) (hvs : vs0[2]? = some (.str file tf)) (hfile : ((P.main.file : Str) == file) = true)
    (hcell : K.lookup cc = some ⟨cl, cld, .cell (some (.ref C)), csl⟩) (hD : PySem.W.clsIn K C = some cdD) (hsuper : mg "super" = none) (hop : PySem.W.nsIn K PySem.cStatics "thirdparty.any" = some none) (htop : (P.main.scope.names.lookup ("super" : Str)).isSome = false) :
    FnOk P w K mg base CX0 1 f (PySem.W.fnX "__init__" "BadName.__init__" (defArgs s_BadName) (defBody s_BadName) (defScope s_BadName) [("__class__", cc)] .none .none doc pm none (.ref cda) ct) ["self", "name"] (spE C okx_BadName fs_BadName) := by
  refine fn_super lk hcd sc_BadName hcode hvs hfile hcell hD hsuper hop rfl rfl rfl htop rfl (fun vs H Q E h => len_spE (n := 1) (fun ws h => by obtain ⟨_, rfl, _⟩ := h; rfl) h) (fun A outer s H vs Q E hr h => ?_) (fun _ => rfl) (fun _ => rfl) (fun _ => rfl)
  obtain ⟨a, ws, rfl, ⟨l, rfl, l0, l1⟩, ea, q⟩ := h
  refine ⟨a, C, _, _, rfl, ea, X.oex, X.mro, X.sup, X.subV, pa_cons (pe_joined (.cons pe_str (.cons (pe_fmtR (v_ 1)) .nil))) pa_nil, pss_one (ps_ost (v_ 0) (v_ 1)), ?_⟩
  have tl := repr_le l1 l0
  have z0 : Str.empty.length = 0 := rfl
  have z1 : (Str.ofString "not a name: ").length = 12 := rfl
  refine ⟨_, rfl, line_of (by rw [len_add]; omega), .inl ⟨_, rfl, line_of (by omega), _, rfl, line_of (by rw [len_add, len_add]; omega), ?_⟩⟩
  refine ⟨ea, (by show 1 ≤ 1000; decide), ?_⟩
  exact ⟨a, C, rfl, X.oex, X.no _ (by simp), .inl ⟨ea, ost1 ea fun dx H' n ne e1 e2 hh => q dx _ n ne e1 e2 hh⟩⟩
theorem ok_BadSign {C f cc cda : Addr} {doc pm ct oc ccl cl : Value} {od cdd cld : Option Addr} {osl ccs csl : Array (Option Value)} {vs0 : Array Value} {file : Str} {tf : Tok} {cdD : ClassData}
    (X : ExK K C f ["sign"]) (lk : K.lookup f = some ⟨oc, od, .func (PySem.W.fnX "__init__" "BadSign.__init__" (defArgs s_BadSign) (defBody s_BadSign) (defScope s_BadSign) [("__class__", cc)] .none .none doc pm none (.ref cda) ct), osl⟩)
    (hcd : PySem.W.codeIn K (.ref cda) "BadSign.__init__" = true) (hcode : K.lookup cda = some ⟨ccl, cdd, .fields vs0, ccs⟩) (hvs : vs0[2]? = some (.str file tf)) (hfile : ((P.main.file : Str) == file) = true)
    (hcell : K.lookup cc = some ⟨cl, cld, .cell (some (.ref C)), csl⟩) (hD : PySem.W.clsIn K C = some cdD) (hsuper : mg "super" = none) (hop : PySem.W.nsIn K PySem.cStatics "thirdparty.any" = some none) (htop : (P.main.scope.names.lookup ("super" : Str)).isSome = false) :
    FnOk P w K mg base CX0 1 f (PySem.W.fnX "__init__" "BadSign.__init__" (defArgs s_BadSign) (defBody s_BadSign) (defScope s_BadSign) [("__class__", cc)] .none .none doc pm none (.ref cda) ct) ["self", "sign"] (spE C okx_BadSign fs_BadSign) := by
  refine fn_super lk hcd sc_BadSign hcode hvs hfile hcell hD hsuper hop rfl rfl rfl htop rfl (fun vs H Q E h => len_spE (n := 1) (fun ws h => by obtain ⟨_, rfl, _⟩ := h; rfl) h) (fun A outer s H vs Q E hr h => ?_) (fun _ => rfl) (fun _ => rfl) (fun _ => rfl)
  obtain ⟨a, ws, rfl, ⟨l, rfl, l0, l1⟩, ea, q⟩ := h
  refine ⟨a, C, _, _, rfl, ea, X.oex, X.mro, X.sup, X.subV, pa_cons (pe_joined (.cons pe_str (.cons (pe_fmtR (v_ 1)) .nil))) pa_nil, pss_one (ps_ost (v_ 0) (v_ 1)), ?_⟩
  have tl := repr_le l1 l0
  have z0 : Str.empty.length = 0 := rfl
  have z1 : (Str.ofString "not a sign: ").length = 12 := rfl
  refine ⟨_, rfl, line_of (by rw [len_add]; omega), .inl ⟨_, rfl, line_of (by omega), _, rfl, line_of (by rw [len_add, len_add]; omega), ?_⟩⟩
  refine ⟨ea, (by show 1 ≤ 1000; decide), ?_⟩
  exact ⟨a, C, rfl, X.oex, X.no _ (by simp), .inl ⟨ea, ost1 ea fun dx H' n ne e1 e2 hh => q dx _ n ne e1 e2 hh⟩⟩
theorem ok_BadNumber {C f cc cda : Addr} {doc pm ct oc ccl cl : Value} {od cdd cld : Option Addr} {osl ccs csl : Array (Option Value)} {vs0 : Array Value} {file : Str} {tf : Tok} {cdD : ClassData}
    (X : ExK K C f ["value"]) (lk : K.lookup f = some ⟨oc, od, .func (PySem.W.fnX "__init__" "BadNumber.__init__" (defArgs s_BadNumber) (defBody s_BadNumber) (defScope s_BadNumber) [("__class__", cc)] .none .none doc pm none (.ref cda) ct), osl⟩)
    (hcd : PySem.W.codeIn K (.ref cda) "BadNumber.__init__" = true) (hcode : K.lookup cda = some ⟨ccl, cdd, .fields vs0, ccs⟩) (hvs : vs0[2]? = some (.str file tf)) (hfile : ((P.main.file : Str) == file) = true)
    (hcell : K.lookup cc = some ⟨cl, cld, .cell (some (.ref C)), csl⟩) (hD : PySem.W.clsIn K C = some cdD) (hsuper : mg "super" = none) (hop : PySem.W.nsIn K PySem.cStatics "thirdparty.any" = some none) (htop : (P.main.scope.names.lookup ("super" : Str)).isSome = false) :
    FnOk P w K mg base CX0 1 f (PySem.W.fnX "__init__" "BadNumber.__init__" (defArgs s_BadNumber) (defBody s_BadNumber) (defScope s_BadNumber) [("__class__", cc)] .none .none doc pm none (.ref cda) ct) ["self", "value"] (spE C okx_BadNumber fs_BadNumber) := by
  refine fn_super lk hcd sc_BadNumber hcode hvs hfile hcell hD hsuper hop rfl rfl rfl htop rfl (fun vs H Q E h => len_spE (n := 1) (fun ws h => by obtain ⟨_, rfl, _⟩ := h; rfl) h) (fun A outer s H vs Q E hr h => ?_) (fun _ => rfl) (fun _ => rfl) (fun _ => rfl)
  obtain ⟨a, ws, rfl, ⟨l, rfl, l0⟩, ea, q⟩ := h
  refine ⟨a, C, _, _, rfl, ea, X.oex, X.mro, X.sup, X.subV, pa_cons (pe_joined (.cons pe_str (.cons (pe_fmt (v_ 1)) .nil))) pa_nil, pss_one (ps_ost (v_ 0) (v_ 1)), ?_⟩
  have tl := int_text_len_1921 (log_200 l0)
  have z0 : Str.empty.length = 0 := rfl
  have z1 : (Str.ofString "out of bounds: ").length = 15 := rfl
  refine ⟨_, rfl, line_of (by rw [len_add]; omega), .inr ⟨_, rfl, log_200 l0, _, rfl, line_of (by rw [len_add, len_add]; omega), ?_⟩⟩
  refine ⟨ea, (by show 1 ≤ 1000; decide), ?_⟩
  exact ⟨a, C, rfl, X.oex, X.no _ (by simp), .inl ⟨ea, ost1 ea fun dx H' n ne e1 e2 hh => q dx _ n ne e1 e2 hh⟩⟩
def okx_TooLarge (ws : List V) : Prop := ∃ l : Int, ws = [.int l] ∧ 0 ≤ l ∧ l ≤ 100000
def fs_TooLarge (ws : List V) : List (Str × V) := match ws with | [l] => [("most", l)] | _ => []
theorem log_small {i : Int} (h0 : 0 ≤ i) (h1 : i ≤ 100000) : i.natAbs.log2 < 1920 := by
  by_cases hz : i.natAbs = 0
  · rw [hz]
    decide
  · refine (Nat.log2_lt hz).mpr ?_
    have : i.natAbs ≤ 100000 := by omega
    exact Nat.lt_of_le_of_lt this (Nat.lt_of_lt_of_le (show 100000 < 2 ^ 17 by decide) (Nat.pow_le_pow_right (by decide) (by decide)))
theorem text_small {i : Int} (h0 : 0 ≤ i) (h1 : i ≤ 100000) : (Str.ofString (toString i)).length ≤ 6 := toString_length_le h0 (by decide) (by omega)
theorem ok_TooLarge {C f cc cda : Addr} {doc pm ct oc ccl cl : Value} {od cdd cld : Option Addr} {osl ccs csl : Array (Option Value)} {vs0 : Array Value} {file : Str} {tf : Tok} {cdD : ClassData}
    (X : ExK K C f ["most"]) (lk : K.lookup f = some ⟨oc, od, .func (PySem.W.fnX "__init__" "TooLarge.__init__" (defArgs s_TooLarge) (defBody s_TooLarge) (defScope s_TooLarge) [("__class__", cc)] .none .none doc pm none (.ref cda) ct), osl⟩)
    (hcd : PySem.W.codeIn K (.ref cda) "TooLarge.__init__" = true) (hcode : K.lookup cda = some ⟨ccl, cdd, .fields vs0, ccs⟩) (hvs : vs0[2]? = some (.str file tf)) (hfile : ((P.main.file : Str) == file) = true)
    (hcell : K.lookup cc = some ⟨cl, cld, .cell (some (.ref C)), csl⟩) (hD : PySem.W.clsIn K C = some cdD) (hsuper : mg "super" = none) (hop : PySem.W.nsIn K PySem.cStatics "thirdparty.any" = some none) (htop : (P.main.scope.names.lookup ("super" : Str)).isSome = false) :
    FnOk P w K mg base CX0 1 f (PySem.W.fnX "__init__" "TooLarge.__init__" (defArgs s_TooLarge) (defBody s_TooLarge) (defScope s_TooLarge) [("__class__", cc)] .none .none doc pm none (.ref cda) ct) ["self", "most"] (spE C okx_TooLarge fs_TooLarge) := by
  refine fn_super lk hcd sc_TooLarge hcode hvs hfile hcell hD hsuper hop rfl rfl rfl htop rfl (fun vs H Q E h => len_spE (n := 1) (fun ws h => by obtain ⟨_, rfl, _⟩ := h; rfl) h) (fun A outer s H vs Q E hr h => ?_) (fun _ => rfl) (fun _ => rfl) (fun _ => rfl)
  obtain ⟨a, ws, rfl, ⟨l, rfl, l0, l1⟩, ea, q⟩ := h
  refine ⟨a, C, _, _, rfl, ea, X.oex, X.mro, X.sup, X.subV, pa_cons (pe_joined (.cons pe_str (.cons (pe_fmt (v_ 1)) .nil))) pa_nil, pss_one (ps_ost (v_ 0) (v_ 1)), ?_⟩
  have tl := text_small l0 l1
  have z0 : Str.empty.length = 0 := rfl
  have z1 : (Str.ofString "more than ").length = 10 := rfl
  refine ⟨_, rfl, line_of (by rw [len_add]; omega), .inr ⟨_, rfl, log_small l0 l1, _, rfl, line_of (by rw [len_add, len_add]; omega), ?_⟩⟩
  refine ⟨ea, (by show 1 ≤ 1000; decide), ?_⟩
  exact ⟨a, C, rfl, X.oex, X.no _ (by simp), .inl ⟨ea, ost1 ea fun dx H' n ne e1 e2 hh => q dx _ n ne e1 e2 hh⟩⟩

end
section
variable {P : Program} {w : World} {K : PySem.W.Frag} {mg : Str → Option Value} {base : Heap}
variable {t_BOUND t_DIGITS t_LETTERS t_LONGEST_INTEGER t_LONGEST_NAME t_MOST_NESTED : Tok} {a_ALWAYS a_MARKS a_NEVER a_OPPOSITES a_RESERVED a_SIGNS a_BadName a_BadNumber a_BadSign a_BadText a_Condition a_ElseputError a_Reader a_TooLarge : Addr}
def sp_in_bound (K : PySem.W.Frag) : Sp := fun vs H Q _ => ∃ i : Int, vs = [.int i] ∧ Q (.bl (inB i)) H
theorem len_in_bound {vs : List V} {H : Hp} {Q : VK} {E : XK} (h : sp_in_bound K vs H Q E) : vs.length = 1 := by
  obtain ⟨_, rfl, _⟩ := h
  rfl
theorem ok_in_bound {f : Addr} {fd : FuncData} (F : Fun K "in_bound" "in_bound" s_in_bound f fd) (T : Gs K mg t_BOUND t_DIGITS t_LETTERS t_LONGEST_INTEGER t_LONGEST_NAME t_MOST_NESTED a_ALWAYS a_MARKS a_NEVER a_OPPOSITES a_RESERVED a_SIGNS a_BadName a_BadNumber a_BadSign a_BadText a_Condition a_ElseputError a_Reader a_TooLarge) : FnOk P w K mg base CX0 1 f fd ["value"] (sp_in_bound K) := by
  refine F.ok sc_in_bound (fun vs H Q E h => len_in_bound h) (fun cdv A outer s H vs Q E hr h => ?_)
  obtain ⟨i, rfl, q⟩ := h
  refine ⟨_, (pss_one (ps_ret (pe_chain op_leM op_leM (pe_un un_negM (pe_glob (v := .int 1000000000000000000000000000000) rfl T.g_BOUND ⟨_, rfl⟩)) (v_ 0) (pe_glob (v := .int 1000000000000000000000000000000) rfl T.g_BOUND ⟨_, rfl⟩)))), ?_⟩
  refine ⟨_, rfl, ?_⟩
  unfold inB at q
  refine ite2 (fun e => ?_) (fun e => ?_)
  · have e : decide (-1000000000000000000000000000000 ≤ i) = true := e
    rw [e, Bool.true_and] at q
    exact q
  · have e : decide (-1000000000000000000000000000000 ≤ i) = false := Bool.eq_false_iff.mpr e
    rw [e, Bool.false_and] at q
    exact q
def sp_check_name (K : PySem.W.Frag) : Sp := fun vs H Q E => ∃ z : Str, vs = [.str z] ∧ z.length ≤ 1000 ∧ Asc z ∧ (if isName z = true then ∀ H', Same H H' → Q .non H' else BadN K H z E)
theorem len_check_name {vs : List V} {H : Hp} {Q : VK} {E : XK} (h : sp_check_name K vs H Q E) : vs.length = 1 := by
  obtain ⟨_, rfl, _⟩ := h
  rfl
theorem ok_check_name {f : Addr} {fd : FuncData} {f_is_name : Addr} {fd_is_name : FuncData} {f_BadName : Addr} {fd_BadName : FuncData} (F : Fun K "check_name" "check_name" s_check_name f fd) (T : Gs K mg t_BOUND t_DIGITS t_LETTERS t_LONGEST_INTEGER t_LONGEST_NAME t_MOST_NESTED a_ALWAYS a_MARKS a_NEVER a_OPPOSITES a_RESERVED a_SIGNS a_BadName a_BadNumber a_BadSign a_BadText a_Condition a_ElseputError a_Reader a_TooLarge) (c_is_name : Cal P w K mg base CX0 1 "is_name" f_is_name fd_is_name ["text"] (sp_is_name K)) (c_BadName : CalE P w K mg base 1 "BadName" a_BadName f_BadName fd_BadName ["self", "name"] okx_BadName fs_BadName ["name"]) : FnOk P w K mg base (L2.CX P w) 3 f fd ["text"] (sp_check_name K) := by
  refine F.okX sc_check_name (fun vs H Q E h => len_check_name h) (fun cdv A outer s H vs Q E hr h => ?_)
  obtain ⟨z, rfl, h0, h1, q⟩ := h
  refine ⟨_, (pss_one (ps_if (pt_not (pt_t K (pe_call c_is_name.G (hr.mono (by first | decide | omega)) rfl c_is_name.m c_is_name.kp c_is_name.b .nil pass0 (pa_cons (v_ 0) pa_nil)))) (pss_one (ps_raise rfl (takes_of rfl rfl rfl rfl) (pmk_oex c_BadName.X.oex c_BadName.X.iC c_BadName.X.tI c_BadName.G (hr.mono (by first | decide | omega)) c_BadName.b .nil pass0 rfl c_BadName.m (pa_cons (v_ 0) pa_nil)))) pss_nil)), ?_⟩
  refine ⟨z, rfl, h0, fun H' s => ?_⟩
  refine ite2 (fun e => ?_) (fun e => ?_)
  · have e : ¬ isName z = true := by
      have e : (!isName z) = true := e
      rw [Bool.not_eq_true'] at e
      rw [e]
      decide
    rw [if_neg e] at q
    refine mk_spE (by show 1 ≤ 1000; decide) ⟨z, rfl, h0, h1⟩ (fun d nd => ?_)
    exact q a_BadName d _ T.n_BadName (s.trans (same_new nd)) (Same.free s nd) upd_same
  · have e : isName z = true := by
      have e : ¬ (!isName z) = true := e
      rw [Bool.not_eq_true, Bool.not_eq_false'] at e
      exact e
    rw [if_pos e] at q
    exact q H' s
def sp_check_number (K : PySem.W.Frag) : Sp := fun vs H Q E => ∃ i : Int, vs = [.int i] ∧ i.natAbs < 2 ^ 200 ∧ (if inB i = true then Q .non H else BadI K H i E)
theorem len_check_number {vs : List V} {H : Hp} {Q : VK} {E : XK} (h : sp_check_number K vs H Q E) : vs.length = 1 := by
  obtain ⟨_, rfl, _⟩ := h
  rfl
theorem ok_check_number {f : Addr} {fd : FuncData} {f_in_bound : Addr} {fd_in_bound : FuncData} {f_BadNumber : Addr} {fd_BadNumber : FuncData} (F : Fun K "check_number" "check_number" s_check_number f fd) (T : Gs K mg t_BOUND t_DIGITS t_LETTERS t_LONGEST_INTEGER t_LONGEST_NAME t_MOST_NESTED a_ALWAYS a_MARKS a_NEVER a_OPPOSITES a_RESERVED a_SIGNS a_BadName a_BadNumber a_BadSign a_BadText a_Condition a_ElseputError a_Reader a_TooLarge) (c_in_bound : Cal P w K mg base CX0 1 "in_bound" f_in_bound fd_in_bound ["value"] (sp_in_bound K)) (c_BadNumber : CalE P w K mg base 1 "BadNumber" a_BadNumber f_BadNumber fd_BadNumber ["self", "value"] okx_BadNumber fs_BadNumber ["value"]) : FnOk P w K mg base (L2.CX P w) 3 f fd ["value"] (sp_check_number K) := by
  refine F.okX sc_check_number (fun vs H Q E h => len_check_number h) (fun cdv A outer s H vs Q E hr h => ?_)
  obtain ⟨i, rfl, h0, q⟩ := h
  refine ⟨_, (pss_one (ps_if (pt_not (pt_t K (pe_call c_in_bound.G (hr.mono (by first | decide | omega)) rfl c_in_bound.m c_in_bound.kp c_in_bound.b .nil pass0 (pa_cons (v_ 0) pa_nil)))) (pss_one (ps_raise rfl (takes_of rfl rfl rfl rfl) (pmk_oex c_BadNumber.X.oex c_BadNumber.X.iC c_BadNumber.X.tI c_BadNumber.G (hr.mono (by first | decide | omega)) c_BadNumber.b .nil pass0 rfl c_BadNumber.m (pa_cons (v_ 0) pa_nil)))) pss_nil)), ?_⟩
  refine ⟨i, rfl, ?_⟩
  refine ite2 (fun e => ?_) (fun e => ?_)
  · have e : ¬ inB i = true := by
      have e : (!inB i) = true := e
      rw [Bool.not_eq_true'] at e
      rw [e]
      decide
    rw [if_neg e] at q
    refine mk_spE (by show 1 ≤ 1000; decide) ⟨i, rfl, h0⟩ (fun d nd => ?_)
    exact q a_BadNumber d _ T.n_BadNumber (same_new nd) nd upd_same
  · have e : inB i = true := by
      have e : ¬ (!inB i) = true := e
      rw [Bool.not_eq_true, Bool.not_eq_false'] at e
      exact e
    rw [if_pos e] at q
    exact q
end
section
variable {P : Program} {w : World} {K : PySem.W.Frag} {mg : Str → Option Value} {base : Heap}
variable {t_BOUND t_DIGITS t_LETTERS t_LONGEST_INTEGER t_LONGEST_NAME t_MOST_NESTED : Tok} {a_ALWAYS a_MARKS a_NEVER a_OPPOSITES a_RESERVED a_SIGNS a_BadName a_BadNumber a_BadSign a_BadText a_Condition a_ElseputError a_Reader a_TooLarge : Addr}
theorem inV_str {z : Str} : ∀ {xs : List Str}, inV (.str z) (xs.map V.str) = decide (z ∈ xs)
  | [] => rfl
  | a :: r => by
    have ih := inV_str (z := z) (xs := r)
    unfold inV at ih ⊢
    rw [List.map_cons, List.any_cons, ih]
    have : eqV (.str a) (.str z) = decide (z = a) := by
      show (a == z) = _
      rw [Bool.eq_iff_iff, beq_iff_eq, decide_eq_true_iff, eq_comm]
    rw [this, Bool.eq_iff_iff, Bool.or_eq_true, decide_eq_true_iff, decide_eq_true_iff, decide_eq_true_iff, List.mem_cons]
theorem flat_strs {xs : List Str} : (xs.map V.str).all flatV = true := by
  rw [List.all_map]
  exact List.all_eq_true.mpr fun _ _ => rfl
def sp__law_draw (K : PySem.W.Frag) : Sp := fun vs H Q _ => ∃ (st scr : Addr) (many : Int), vs = [.ref st, .int many] ∧ DrAt H st scr ∧ 0 < many ∧ many.natAbs < 2 ^ 200 ∧
  ∀ (r : Int) (l : List V), 0 ≤ r → r < many → DrAt (upd H st (.lst l)) st scr → Q (.int r) (upd H st (.lst l))
theorem len__law_draw {vs : List V} {H : Hp} {Q : VK} {E : XK} (h : sp__law_draw K vs H Q E) : vs.length = 2 := by
  obtain ⟨_, _, _, rfl, _⟩ := h
  rfl
theorem ok__law_draw {f : Addr} {fd : FuncData} (F : Fun K "_law_draw" "_law_draw" s__law_draw f fd) (T : Gs K mg t_BOUND t_DIGITS t_LETTERS t_LONGEST_INTEGER t_LONGEST_NAME t_MOST_NESTED a_ALWAYS a_MARKS a_NEVER a_OPPOSITES a_RESERVED a_SIGNS a_BadName a_BadNumber a_BadSign a_BadText a_Condition a_ElseputError a_Reader a_TooLarge) : FnOk P w K mg base CX0 1 f fd ["_law_state_here", "_law_many"] (sp__law_draw K) := by
  refine F.ok sc__law_draw (fun vs H Q E h => len__law_draw h) (fun cdv A outer s H vs Q E hr h => ?_)
  obtain ⟨st, scr, many, rfl, ⟨ns, i, v, m, c, hst, hscr, hl, h0⟩, hm0, hm1, q⟩ := h
  have hne := DrAt.ne hst hscr
  refine ⟨_, (Evl.pss_cut (ps_if (pt_c (eqK K hr.units) (e_x K (v_ 0) pe_int) pe_int) (pss_cons (ps_if (pt_c op_geM (e_x K (v_ 0) pe_int) (pe_callB (lenK K) (by rfl) T.z_len PySem.boot_len (pa_cons (e_x K (v_ 0) pe_int) pa_nil))) (pss_one (ps_ret pe_int)) pss_nil) (pss_cons (ps_asg (pe_callTy call_intM (by rfl) T.z_int (by decide +kernel) (pa_cons (e_x K (e_x K (v_ 0) pe_int) (e_x K (v_ 0) pe_int)) pa_nil)) (pg_sub (v_ 0) pe_int set_list)) (pss_cons (ps_asg (pe_op (addK K) (e_x K (v_ 0) pe_int) pe_int) (pg_sub (v_ 0) pe_int set_list)) (pss_cons (ps_asg pe_int (pg_sub (v_ 0) pe_int set_list)) (pss_cons (ps_asg pe_int (pg_sub (v_ 0) pe_int set_list)) (pss_one (ps_if (pt_c op_ltM (e_x K (v_ 0) pe_int) (pe_op op_powM pe_int pe_int)) (pss_one (ps_asg pe_int (pg_sub (v_ 0) pe_int set_list))) pss_nil))))))) pss_nil) (pss_cons (ps_asg (pe_op (addK K) (e_x K (v_ 0) pe_int) pe_int) (pg_sub (v_ 0) pe_int set_list)) (pss_cons (ps_if (pt_c (eqK K hr.units) (e_x K (v_ 0) pe_int) pe_int) (pss_cons (ps_set (i := 5) sc__law_draw.nd rfl (.inl rfl) (pe_op op_modM (pe_callTy call_intM (by rfl) T.z_int (by decide +kernel) (pa_cons (e_x K (v_ 0) pe_int) pa_nil)) (v_ 1))) (pss_cons (ps_asg (pe_op op_divM (pe_callTy call_intM (by rfl) T.z_int (by decide +kernel) (pa_cons (e_x K (v_ 0) pe_int) pa_nil)) (v_ 1)) (pg_sub (v_ 0) pe_int set_list)) (Evl.pss_cut (ps_if (PW.pt (pw_or (pt_c (eqK K hr.units) (e_x K (v_ 0) pe_int) pe_int) (pw_or1 (pt_c op_geM (e_x K (v_ 0) pe_int) pe_int)))) (pss_one (ps_asg pe_int (pg_sub (v_ 0) pe_int set_list))) pss_nil) (pss_one (ps_ret (v_ 5)))))) pss_nil) (pss_cons (ps_set (i := 2) sc__law_draw.nd rfl (.inl rfl) (pe_op op_modM (pe_callTy call_intM (by rfl) T.z_int (by decide +kernel) (pa_cons (pe_op (addK K) (pe_op op_mulSM (e_x K (v_ 0) pe_int) pe_int) (pe_op op_mulSM (e_x K (v_ 0) pe_int) pe_int)) pa_nil)) pe_int)) (pss_cons (ps_set (i := 3) sc__law_draw.nd rfl (.inl rfl) (pe_op op_modM (pe_callTy call_intM (by rfl) T.z_int (by decide +kernel) (pa_cons (pe_op (addK K) (pe_op (addK K) (pe_op op_mulSM (v_ 2) (v_ 2)) (pe_op op_mulSM (e_x K (v_ 0) pe_int) pe_int)) pe_int) pa_nil)) pe_int)) (Evl.pss_cut (ps_if (pt_c op_geM (e_x K (v_ 0) pe_int) pe_int) (pss_one (ps_asg pe_int (pg_sub (v_ 0) pe_int set_list))) pss_nil) (pss_cons (ps_set (i := 4) sc__law_draw.nd rfl (.inl rfl) (pe_op op_modM (pe_callTy call_intM (by rfl) T.z_int (by decide +kernel) (pa_cons (pe_op (addK K) (pe_op op_mulSM (v_ 3) pe_int) (v_ 2)) pa_nil)) pe_int)) (pss_one (ps_ret (pe_op op_modM (pe_callTy call_intM (by rfl) T.z_int (by decide +kernel) (pa_cons (v_ 4) pa_nil)) (v_ 1))))))))))), ?_⟩
  refine ⟨fun σ' H' => σ' = [some (.ref st), some (.int many), none, none, none, none] ∧ ∃ i v m c, H' = upd H st (.lst (stv scr i v m c)) ∧ 0 ≤ i, ?_, ?_⟩
  · refine ⟨_, .inl (SqL.of hst), _, rfl, ?_⟩
    refine ite2 (fun e => ?_) (fun e => ?_)
    · refine ⟨_, .inl (SqL.of hst), _, rfl, _, .inl (SqL.of hst), _, rfl, .inl ⟨_, .inl (SqL.of hscr), ?_⟩⟩
      refine ite2 (fun e1 => ?_) (fun e1 => ?_)
      · have z := q 0 (stv scr i v m c) (by omega) hm0 (DrAt.upd hst hscr hl h0)
        rw [upd_id hst] at z
        exact z
      · have e2 := of_decide_eq_false (Bool.eq_false_iff.mpr e1)
        rw [List.length_map] at e2
        obtain ⟨z, hz⟩ : ∃ z, atI (ns.map V.int) i = some (.int z) := by
          have hi : i.toNat < ns.length := by omega
          refine ⟨ns[i.toNat], ?_⟩
          have hq : atI (ns.map V.int) ((i.toNat : Nat) : Int) = some (.int ns[i.toNat]) := atI_nat (by rw [List.getElem?_map, List.getElem?_eq_getElem hi]; rfl)
          rwa [show ((i.toNat : Nat) : Int) = i by omega] at hq
        refine ⟨_, .inl (SqL.of hst), _, rfl, _, .inl (SqL.of hst), _, rfl, _, .inl (SqL.of hscr), _, hz, ?_⟩
        refine ⟨_, _, _, 2, rfl, rfl, hst, rfl, ?_⟩
        refine ⟨_, .inl (SqL.of upd_same), _, rfl, ?_⟩
        refine ⟨_, _, _, 1, rfl, rfl, upd_same, rfl, ?_⟩
        refine ⟨_, _, _, 3, rfl, rfl, upd_same, rfl, ?_⟩
        refine ⟨_, _, _, 4, rfl, rfl, upd_same, rfl, ?_⟩
        refine ⟨_, .inl (SqL.of upd_same), _, rfl, (by unfold CPow; decide), ?_⟩
        refine ite2 (fun e3 => ?_) (fun e3 => ?_)
        · refine ⟨_, _, _, 3, rfl, rfl, upd_same, rfl, rfl, i + 1, z, 2, 0, ?_, by omega⟩
          rw [upd_upd, upd_upd, upd_upd, upd_upd]
          rfl
        · refine ⟨rfl, i + 1, z, 1, 0, ?_, by omega⟩
          rw [upd_upd, upd_upd, upd_upd]
          rfl
    · exact ⟨rfl, i, v, m, c, (upd_id hst).symm, h0⟩
  · rintro σ' H' ⟨rfl, i, v, m, c, rfl, h0⟩
    have hscr' : ∀ o, upd H st o scr = some (.lst (ns.map V.int)) := fun o => by rw [upd_ne hne]; exact hscr
    refine ⟨_, .inl (SqL.of upd_same), _, rfl, ?_⟩
    refine ⟨_, _, _, 4, rfl, rfl, upd_same, rfl, ?_⟩
    rw [upd_upd]
    refine ⟨_, .inl (SqL.of upd_same), _, rfl, ?_⟩
    refine ite2 (fun e => ?_) (fun e => ?_)
    · refine ⟨_, .inl (SqL.of upd_same), _, rfl, hm0, ?_⟩
      refine ⟨_, .inl (SqL.of upd_same), _, rfl, .inr (wide_div hm0 (b := 200) hm1 (by decide) (by decide)), ?_⟩
      refine ⟨_, _, _, 2, rfl, rfl, upd_same, rfl, ?_⟩
      rw [upd_upd]
      have fin : ∀ m' : Int, Q (.int (v % many)) (upd H st (.lst (stv scr i (v / many) m' (c + 1)))) := fun m' => q _ _ (Int.emod_nonneg _ (by omega)) (Int.emod_lt_of_pos _ hm0) (DrAt.upd hst hscr hl h0)
      refine ⟨fun σ' H' => σ' = [some (.ref st), some (.int many), none, none, none, some (.int (v % many))] ∧ ∃ m', H' = upd H st (.lst (stv scr i (v / many) m' (c + 1))), ?_, ?_⟩
      · refine ⟨_, .inl (SqL.of upd_same), _, rfl, ?_⟩
        refine ite2 (fun e1 => ?_) (fun e1 => ?_)
        · refine ⟨_, _, _, 3, rfl, rfl, upd_same, rfl, rfl, 0, ?_⟩
          rw [upd_upd]
          rfl
        · refine ⟨_, .inl (SqL.of upd_same), _, rfl, ?_⟩
          refine ite2 (fun e1 => ?_) (fun e1 => ?_)
          · refine ⟨_, _, _, 3, rfl, rfl, upd_same, rfl, rfl, 0, ?_⟩
            rw [upd_upd]
            rfl
          · exact ⟨rfl, m, rfl⟩
      · rintro σ' H' ⟨rfl, m', rfl⟩
        exact fin m'
    · refine ⟨_, .inl (SqL.of upd_same), _, rfl, .inl (.inr ⟨by decide, by decide⟩), ?_⟩
      refine ⟨_, .inl (SqL.of upd_same), _, rfl, .inl (.inr ⟨by decide, by decide⟩), (by decide), ?_⟩
      have f0 := Int.emod_nonneg (v * 48271 + (c + 1) * 69621) (by decide : (2147483647 : Int) ≠ 0)
      have f1 := Int.emod_lt_of_pos (v * 48271 + (c + 1) * 69621) (by decide : (0 : Int) < 2147483647)
      refine ⟨.inl (.inl ⟨by omega, by omega⟩), ?_⟩
      refine ⟨_, .inl (SqL.of upd_same), _, rfl, .inl (.inr ⟨by decide, by decide⟩), (by decide), ?_⟩
      have fin : ∀ (m' x : Int), Q (.int (x % many)) (upd H st (.lst (stv scr i v m' (c + 1)))) := fun m' x => q _ _ (Int.emod_nonneg _ (by omega)) (Int.emod_lt_of_pos _ hm0) (DrAt.upd hst hscr hl h0)
      refine ⟨fun σ' H' => (∃ a b, σ' = [some (.ref st), some (.int many), some (.int a), some (.int b), none, none]) ∧ ∃ m', H' = upd H st (.lst (stv scr i v m' (c + 1))), ?_, ?_⟩
      · refine ⟨_, .inl (SqL.of upd_same), _, rfl, ?_⟩
        refine ite2 (fun e1 => ?_) (fun e1 => ?_)
        · refine ⟨_, _, _, 3, rfl, rfl, upd_same, rfl, ⟨_, _, rfl⟩, 0, ?_⟩
          rw [upd_upd]
          rfl
        · exact ⟨⟨_, _, rfl⟩, m, rfl⟩
      · rintro σ' H' ⟨⟨a, b, rfl⟩, m', rfl⟩
        refine ⟨.inl (.inr ⟨by decide, by decide⟩), (by decide), hm0, ?_⟩
        exact fin m' _

/-! ### _law_state -/
def sp__law_state (K : PySem.W.Frag) : Sp := fun vs H Q _ => ∃ (a : Addr) (ns : List Int), vs = [.ref a] ∧ SqL K H a (ns.map V.int) ∧ ns.length ≤ 63 ∧
  ∀ (H' : Hp) (st scr : Addr), Same H H' → H st = none → H scr = none → DrAt H' st scr → Q (.ref st) H'
theorem len__law_state {vs : List V} {H : Hp} {Q : VK} {E : XK} (h : sp__law_state K vs H Q E) : vs.length = 1 := by
  obtain ⟨_, _, rfl, _⟩ := h
  rfl
theorem ok__law_state {f : Addr} {fd : FuncData} (F : Fun K "_law_state" "_law_state" s__law_state f fd) (T : Gs K mg t_BOUND t_DIGITS t_LETTERS t_LONGEST_INTEGER t_LONGEST_NAME t_MOST_NESTED a_ALWAYS a_MARKS a_NEVER a_OPPOSITES a_RESERVED a_SIGNS a_BadName a_BadNumber a_BadSign a_BadText a_Condition a_ElseputError a_Reader a_TooLarge) : FnOk P w K mg base CX0 1 f fd ["_law_script"] (sp__law_state K) := by
  refine F.ok sc__law_state (fun vs H Q E h => len__law_state h) (fun cdv A outer s H vs Q E hr h => ?_)
  obtain ⟨a, ns, rfl, hS, hl, q⟩ := h
  refine ⟨_, (pss_one (ps_ret (pe_lst (pa_cons (pe_callTy (listK K) (by rfl) T.z_list (by decide +kernel) (pa_cons (v_ 0) pa_nil)) (pa_cons pe_int (pa_cons pe_int (pa_cons pe_int (pa_cons pe_int pa_nil)))))))), ?_⟩
  refine ⟨_, _, rfl, .inl hS, fun l nl => ?_⟩
  refine ⟨(by show 5 ≤ sizeLine; decide), fun st nst => ?_⟩
  have hne := new_ne nst
  refine q _ st l ((same_new nl).trans (same_new nst)) (free_new nst) nl ⟨ns, 0, 0, 0, 0, upd_same, ?_, hl, by omega⟩
  rw [upd_ne hne.symm, upd_same]

theorem at_list {α : Type} {xs : List α} {r : Int} (h0 : 0 ≤ r) (h1 : r < xs.length) : ∃ x, atI xs r = some x ∧ x ∈ xs := by
  have hi : r.toNat < xs.length := by omega
  refine ⟨xs[r.toNat], ?_, List.getElem_mem hi⟩
  have hq : atI xs ((r.toNat : Nat) : Int) = some xs[r.toNat] := atI_nat (List.getElem?_eq_getElem hi)
  rwa [show ((r.toNat : Nat) : Int) = r by omega] at hq
theorem at_str {z : Str} {r : Int} (h0 : 0 ≤ r) (h1 : r < z.length) : ∃ c, atI z.cps.toList r = some c ∧ c ∈ z.cps.toList := at_list h0 (by rw [len_cps]; exact h1)
theorem many_small {m : Int} (h0 : 0 < m) (h1 : m ≤ 1000000000) : m.natAbs < 2 ^ 200 := Nat.lt_of_le_of_lt (show m.natAbs ≤ 2 ^ 30 by omega) (Nat.pow_lt_pow_right (by decide) (by decide))
/-! ### _law_pick -/
def sp__law_pick (K : PySem.W.Frag) : Sp := fun vs H Q _ => ∃ (st scr : Addr) (v : V), vs = [.ref st, v] ∧ DrAt H st scr ∧
  ((∃ z : Str, v = .str z ∧ 0 < z.length ∧ z.length ≤ 1000 ∧ ∀ (c : Nat) (l : List V), c ∈ z.cps.toList → DrAt (upd H st (.lst l)) st scr → Q (.str ⟨#[c]⟩) (upd H st (.lst l))) ∨
    ∃ (p : Addr) (xs : List V), v = .ref p ∧ H p = some (.lst xs) ∧ p ≠ st ∧ 0 < xs.length ∧ xs.length ≤ 1000 ∧ ∀ (x : V) (l : List V), x ∈ xs → DrAt (upd H st (.lst l)) st scr → Q x (upd H st (.lst l)))
theorem len__law_pick {vs : List V} {H : Hp} {Q : VK} {E : XK} (h : sp__law_pick K vs H Q E) : vs.length = 2 := by
  obtain ⟨_, _, _, rfl, _⟩ := h
  rfl
theorem ok__law_pick {f : Addr} {fd : FuncData} {f__law_draw : Addr} {fd__law_draw : FuncData} (F : Fun K "_law_pick" "_law_pick" s__law_pick f fd) (T : Gs K mg t_BOUND t_DIGITS t_LETTERS t_LONGEST_INTEGER t_LONGEST_NAME t_MOST_NESTED a_ALWAYS a_MARKS a_NEVER a_OPPOSITES a_RESERVED a_SIGNS a_BadName a_BadNumber a_BadSign a_BadText a_Condition a_ElseputError a_Reader a_TooLarge) (c__law_draw : Cal P w K mg base CX0 1 "_law_draw" f__law_draw fd__law_draw ["_law_state_here", "_law_many"] (sp__law_draw K)) : FnOk P w K mg base CX0 2 f fd ["_law_state_here", "_law_row"] (sp__law_pick K) := by
  refine F.ok sc__law_pick (fun vs H Q E h => len__law_pick h) (fun cdv A outer s H vs Q E hr h => ?_)
  obtain ⟨st, scr, v, rfl, hd, h⟩ := h
  refine ⟨_, (pss_one (ps_ret (e_x K (v_ 1) (pe_call c__law_draw.G (hr.mono (by first | decide | omega)) rfl c__law_draw.m c__law_draw.kp c__law_draw.b .nil pass0 (pa_cons (v_ 0) (pa_cons (pe_callB (lenK K) (by rfl) T.z_len PySem.boot_len (pa_cons (v_ 1) pa_nil)) pa_nil)))))), ?_⟩
  rcases h with ⟨z, rfl, h0, h1, q⟩ | ⟨p, xs, rfl, hp, hne, h0, h1, q⟩
  · refine ⟨line_of (by omega), st, scr, _, rfl, hd, by omega, many_small (by omega) (by omega), fun r l r0 r1 hd' => ?_⟩
    obtain ⟨c, hc, hm⟩ := at_str r0 r1
    exact ⟨line_of (by omega), c, hc, q c l hm hd'⟩
  · refine .inl ⟨_, .inl (SqL.of hp), st, scr, _, rfl, hd, by omega, many_small (by omega) (by omega), fun r l r0 r1 hd' => ?_⟩
    obtain ⟨x, hx, hm⟩ := at_list r0 r1
    exact ⟨_, .inl (SqL.of (by rw [upd_ne hne]; exact hp)), x, hx, q x l hm hd'⟩

end
section
variable {P : Program} {w : World} {K : PySem.W.Frag} {mg : Str → Option Value} {base : Heap}
variable {t_BOUND t_DIGITS t_LETTERS t_LONGEST_INTEGER t_LONGEST_NAME t_MOST_NESTED : Tok} {a_ALWAYS a_MARKS a_NEVER a_OPPOSITES a_RESERVED a_SIGNS a_BadName a_BadNumber a_BadSign a_BadText a_Condition a_ElseputError a_Reader a_TooLarge : Addr}
def Bd (i : Int) : Prop := -1000000000000000000000000000000 ≤ i ∧ i ≤ 1000000000000000000000000000000
def sp__law_number (K : PySem.W.Frag) : Sp := fun vs H Q _ => ∃ (st scr : Addr), vs = [.ref st] ∧ DrAt H st scr ∧ ∀ (l : List V) (i : Int), Bd i → DrAt (upd H st (.lst l)) st scr → Q (.int i) (upd H st (.lst l))
theorem len__law_number {vs : List V} {H : Hp} {Q : VK} {E : XK} (h : sp__law_number K vs H Q E) : vs.length = 1 := by
  obtain ⟨_, _, rfl, _⟩ := h
  rfl
theorem p30 : (10 : Int) ^ (30 : Int).toNat = 1000000000000000000000000000000 := by decide +kernel
theorem ok__law_number {f : Addr} {fd : FuncData} {f__law_draw : Addr} {fd__law_draw : FuncData} (F : Fun K "_law_number" "_law_number" s__law_number f fd) (T : Gs K mg t_BOUND t_DIGITS t_LETTERS t_LONGEST_INTEGER t_LONGEST_NAME t_MOST_NESTED a_ALWAYS a_MARKS a_NEVER a_OPPOSITES a_RESERVED a_SIGNS a_BadName a_BadNumber a_BadSign a_BadText a_Condition a_ElseputError a_Reader a_TooLarge) (c__law_draw : Cal P w K mg base CX0 1 "_law_draw" f__law_draw fd__law_draw ["_law_state_here", "_law_many"] (sp__law_draw K)) : FnOk P w K mg base CX0 2 f fd ["_law_state_here"] (sp__law_number K) := by
  refine F.ok sc__law_number (fun vs H Q E h => len__law_number h) (fun cdv A outer s H vs Q E hr h => ?_)
  obtain ⟨st, scr, rfl, hd, q⟩ := h
  refine ⟨_, (pss_cons (ps_set (i := 1) sc__law_number.nd rfl (.inl rfl) (pe_call c__law_draw.G (hr.mono (by first | decide | omega)) rfl c__law_draw.m c__law_draw.kp c__law_draw.b .nil pass0 (pa_cons (v_ 0) (pa_cons pe_int pa_nil)))) (pss_cons (ps_if (pt_c op_ltM (v_ 1) pe_int) (pss_one (ps_ret (pe_op op_subM (pe_call c__law_draw.G (hr.mono (by first | decide | omega)) rfl c__law_draw.m c__law_draw.kp c__law_draw.b .nil pass0 (pa_cons (v_ 0) (pa_cons pe_int pa_nil))) pe_int))) pss_nil) (pss_cons (ps_if (pt_c (eqK K hr.units) (v_ 1) pe_int) (pss_one (ps_ret (pe_op op_subM (pe_call c__law_draw.G (hr.mono (by first | decide | omega)) rfl c__law_draw.m c__law_draw.kp c__law_draw.b .nil pass0 (pa_cons (v_ 0) (pa_cons pe_int pa_nil))) pe_int))) pss_nil) (pss_cons (ps_if (pt_c (eqK K hr.units) (v_ 1) pe_int) (pss_one (ps_ret (pe_op op_subM (pe_op op_powM pe_int pe_int) (pe_call c__law_draw.G (hr.mono (by first | decide | omega)) rfl c__law_draw.m c__law_draw.kp c__law_draw.b .nil pass0 (pa_cons (v_ 0) (pa_cons pe_int pa_nil)))))) pss_nil) (pss_cons (ps_if (pt_c (eqK K hr.units) (v_ 1) pe_int) (pss_one (ps_ret (pe_op op_subM (pe_call c__law_draw.G (hr.mono (by first | decide | omega)) rfl c__law_draw.m c__law_draw.kp c__law_draw.b .nil pass0 (pa_cons (v_ 0) (pa_cons pe_int pa_nil))) (pe_op op_powM pe_int pe_int)))) pss_nil) (pss_one (ps_ret (pe_op op_subM (pe_call c__law_draw.G (hr.mono (by first | decide | omega)) rfl c__law_draw.m c__law_draw.kp c__law_draw.b .nil pass0 (pa_cons (v_ 0) (pa_cons (pe_op (addK K) (pe_op op_mulSM pe_int (pe_op op_powM pe_int pe_int)) pe_int) pa_nil))) (pe_op op_powM pe_int pe_int))))))))), ?_⟩
  refine ⟨st, scr, _, rfl, hd, by decide, many_small (by decide) (by decide), fun kd l _ _ hd1 => ?_⟩
  have q : ∀ (l2 : List V) (i : Int), Bd i → DrAt (upd (upd H st (.lst l)) st (.lst l2)) st scr → Q (.int i) (upd (upd H st (.lst l)) st (.lst l2)) := fun l2 i b d => by
    rw [upd_upd] at d ⊢
    exact q l2 i b d
  generalize upd H st (.lst l) = H1 at hd1 q ⊢
  refine ite2 (fun e => ?_) (fun e => ?_)
  · refine ⟨st, scr, _, rfl, hd1, by decide, many_small (by decide) (by decide), fun r l2 r0 r1 hd2 => ?_⟩
    exact q l2 _ (by unfold Bd; omega) hd2
  refine ite2 (fun e => ?_) (fun e => ?_)
  · refine ⟨st, scr, _, rfl, hd1, by decide, many_small (by decide) (by decide), fun r l2 r0 r1 hd2 => ?_⟩
    exact q l2 _ (by unfold Bd; omega) hd2
  refine ite2 (fun e => ?_) (fun e => ?_)
  · refine ⟨(by unfold CPow; decide), ?_⟩
    refine ⟨st, scr, _, rfl, hd1, by decide, many_small (by decide) (by decide), fun r l2 r0 r1 hd2 => ?_⟩
    rw [p30]
    exact q l2 _ (by unfold Bd; omega) hd2
  refine ite2 (fun e => ?_) (fun e => ?_)
  · refine ⟨st, scr, _, rfl, hd1, by decide, many_small (by decide) (by decide), fun r l2 r0 r1 hd2 => ?_⟩
    refine ⟨(by unfold CPow; decide), ?_⟩
    rw [p30]
    exact q l2 _ (by unfold Bd; omega) hd2
  refine ⟨(by unfold CPow; decide), ?_⟩
  rw [p30]
  refine ⟨.inl (.inl ⟨by decide, by decide⟩), ?_⟩
  refine ⟨st, scr, _, rfl, hd1, by decide, by decide +kernel, fun r l2 r0 r1 hd2 => ?_⟩
  refine ⟨(by unfold CPow; decide), ?_⟩
  rw [p30]
  exact q l2 _ (by unfold Bd; omega) hd2
def sp__law_constant (K : PySem.W.Frag) : Sp := sp__law_number K
theorem len__law_constant {vs : List V} {H : Hp} {Q : VK} {E : XK} (h : sp__law_constant K vs H Q E) : vs.length = 1 := len__law_number h
theorem ok__law_constant {f : Addr} {fd : FuncData} {f__law_number : Addr} {fd__law_number : FuncData} {f__law_draw : Addr} {fd__law_draw : FuncData} (F : Fun K "_law_constant" "_law_constant" s__law_constant f fd) (T : Gs K mg t_BOUND t_DIGITS t_LETTERS t_LONGEST_INTEGER t_LONGEST_NAME t_MOST_NESTED a_ALWAYS a_MARKS a_NEVER a_OPPOSITES a_RESERVED a_SIGNS a_BadName a_BadNumber a_BadSign a_BadText a_Condition a_ElseputError a_Reader a_TooLarge) (c__law_number : Cal P w K mg base CX0 2 "_law_number" f__law_number fd__law_number ["_law_state_here"] (sp__law_number K)) (c__law_draw : Cal P w K mg base CX0 1 "_law_draw" f__law_draw fd__law_draw ["_law_state_here", "_law_many"] (sp__law_draw K)) : FnOk P w K mg base CX0 3 f fd ["_law_state_here"] (sp__law_constant K) := by
  refine F.ok sc__law_constant (fun vs H Q E h => len__law_constant h) (fun cdv A outer s H vs Q E hr h => ?_)
  obtain ⟨st, scr, rfl, hd, q⟩ := h
  refine ⟨_, (pss_cons (ps_if (pt_c op_ltM (pe_call c__law_draw.G (hr.mono (by first | decide | omega)) rfl c__law_draw.m c__law_draw.kp c__law_draw.b .nil pass0 (pa_cons (v_ 0) (pa_cons pe_int pa_nil))) pe_int) (pss_one (ps_ret (pe_op op_subM (pe_call c__law_draw.G (hr.mono (by first | decide | omega)) rfl c__law_draw.m c__law_draw.kp c__law_draw.b .nil pass0 (pa_cons (v_ 0) (pa_cons pe_int pa_nil))) pe_int))) pss_nil) (pss_one (ps_ret (pe_call c__law_number.G (hr.mono (by first | decide | omega)) rfl c__law_number.m c__law_number.kp c__law_number.b .nil pass0 (pa_cons (v_ 0) pa_nil))))), ?_⟩
  refine ⟨st, scr, _, rfl, hd, by decide, many_small (by decide) (by decide), fun kd l _ _ hd1 => ?_⟩
  have q : ∀ (l2 : List V) (i : Int), Bd i → DrAt (upd (upd H st (.lst l)) st (.lst l2)) st scr → Q (.int i) (upd (upd H st (.lst l)) st (.lst l2)) := fun l2 i b d => by
    rw [upd_upd] at d ⊢
    exact q l2 i b d
  refine ite2 (fun e => ?_) (fun e => ?_)
  · refine ⟨st, scr, _, rfl, hd1, by decide, many_small (by decide) (by decide), fun r l2 r0 r1 hd2 => ?_⟩
    exact q l2 _ (by unfold Bd; omega) hd2
  · exact ⟨st, scr, rfl, hd1, fun l2 i b d => q l2 i b d⟩

/-! ### names -/
/-- small letters, of which the one at p is c -/
def Lt (z : Str) (p c : Nat) : Prop := (∀ d ∈ z.cps.toList, d ∈ letters.cps.toList) ∧ z.cps.toList[p]? = some c ∧ z.length ≤ 12
theorem Lt.name {z : Str} {p c : Nat} (h : Lt z p c) (hr : inV (.str z) resv = false) : isName z = true := by
  unfold isName
  have h0 : ¬ ((z.length : Int) < 1) := by
    have := (List.getElem?_eq_some_iff.mp h.2.1).1
    rw [len_cps] at this
    omega
  have h1 : ¬ ((12 : Int) < z.length) := by have := h.2.2; omega
  rw [decide_eq_false h0, decide_eq_false h1, hr]
  show (z.cps.toList.all fun c => decide (c ∈ letters.cps.toList)) = true
  exact List.all_eq_true.mpr fun d hd => decide_eq_true (h.1 d hd)
theorem resv_strs : resv = (["always", "never", "and", "or", "not", "when", "add", "set", "change", "tell", "refuse", "take", "look", "free", "lock", "keep", "keys", "fields"] : List Str).map V.str := rfl
theorem resv_z {z : Str} (h : inV (.str z) resv = true) : inV (.str (z ++ "z")) resv = false ∧ z.length ≤ 7 := by
  rw [resv_strs, inV_str, decide_eq_true_iff] at h
  have all : (["always", "never", "and", "or", "not", "when", "add", "set", "change", "tell", "refuse", "take", "look", "free", "lock", "keep", "keys", "fields"] : List Str).all (fun z => !inV (.str (z ++ "z")) resv && decide (z.length ≤ 7)) = true := by decide +kernel
  have := List.all_eq_true.mp all z h
  rw [Bool.and_eq_true, Bool.not_eq_true', decide_eq_true_iff] at this
  exact this
end
section
variable {P : Program} {w : World} {K : PySem.W.Frag} {mg : Str → Option Value} {base : Heap}
variable {t_BOUND t_DIGITS t_LETTERS t_LONGEST_INTEGER t_LONGEST_NAME t_MOST_NESTED : Tok} {a_ALWAYS a_MARKS a_NEVER a_OPPOSITES a_RESERVED a_SIGNS a_BadName a_BadNumber a_BadSign a_BadText a_Condition a_ElseputError a_Reader a_TooLarge : Addr}
theorem cutS_take (z : Str) {k : Nat} : (cutS z none (some (k : Int))).cps.toList = z.cps.toList.take k := by
  unfold cutS
  rw [List.toList_toArray, HT.sIx_nat, HT.sIx_none, List.drop_zero, Nat.sub_zero, List.take_eq_take_iff, len_cps]
  omega
theorem cutS_drop (z : Str) {k : Nat} : (cutS z (some (k : Int)) none).cps.toList = z.cps.toList.drop k := by
  unfold cutS
  rw [List.toList_toArray, HT.sIx_nat, HT.sIx_none]
  by_cases h : k ≤ z.length
  · rw [Nat.min_eq_left h, List.take_of_length_le (by rw [List.length_drop, len_cps]; omega)]
  · rw [Nat.min_eq_right (by omega), List.drop_of_length_le (by rw [len_cps]; omega), List.drop_of_length_le (by rw [len_cps]; omega), List.take_nil]
theorem letter_at {i : Int} (h0 : 0 ≤ i) (h1 : i < 26) : atI letters.cps.toList i = some (97 + i.toNat) := by
  have all : ∀ j : Fin 26, letters.cps.toList[j.val]? = some (97 + j.val) := by decide +kernel
  have := all ⟨i.toNat, by omega⟩
  have hq := atI_nat this
  rwa [show ((i.toNat : Nat) : Int) = i by omega] at hq
theorem letter_mem {i : Nat} (h1 : i < 26) : (97 + i) ∈ letters.cps.toList := by
  have all : ∀ j : Fin 26, (97 + j.val) ∈ letters.cps.toList := by decide +kernel
  exact all ⟨i, h1⟩
theorem one_len (c : Nat) : (⟨#[c]⟩ : Str).length = 1 := rfl
theorem one_cps (c : Nat) : (⟨#[c]⟩ : Str).cps.toList = [c] := rfl
theorem Lt.z {z : Str} {p c : Nat} (h : Lt z p c) (hl : z.length ≤ 7) : Lt (z ++ "z") p c := by
  refine ⟨fun d hd => ?_, ?_, ?_⟩
  · rw [cps_add] at hd
    rcases List.mem_append.mp hd with e | e
    · exact h.1 d e
    · have : d = 122 := by simpa using (show d ∈ [122] from e)
      rw [this]
      decide +kernel
  · rw [cps_add, List.getElem?_append_left (List.getElem?_eq_some_iff.mp h.2.1).1]
    exact h.2.1
  · rw [len_add]
    show z.length + 1 ≤ 12
    omega
def sp__law_names (K : PySem.W.Frag) : Sp := fun vs H Q _ => ∃ (st scr : Addr) (n : Nat), vs = [.ref st, .int n] ∧ DrAt H st scr ∧ n ≤ 26 ∧
  ∀ (H' : Hp) (p : Addr) (zs : List Str), Bt st H H' → DrAt H' st scr → H p = none → H' p = some (.lst (zs.map V.str)) → zs.length = n → (∀ z ∈ zs, isName z = true ∧ z.length ≤ 12) → zs.Nodup → Q (.ref p) H'
theorem len__law_names {vs : List V} {H : Hp} {Q : VK} {E : XK} (h : sp__law_names K vs H Q E) : vs.length = 2 := by
  obtain ⟨_, _, _, rfl, _⟩ := h
  rfl
theorem ok__law_names {f : Addr} {fd : FuncData} {f__law_draw : Addr} {fd__law_draw : FuncData} (F : Fun K "_law_names" "_law_names" s__law_names f fd) (T : Gs K mg t_BOUND t_DIGITS t_LETTERS t_LONGEST_INTEGER t_LONGEST_NAME t_MOST_NESTED a_ALWAYS a_MARKS a_NEVER a_OPPOSITES a_RESERVED a_SIGNS a_BadName a_BadNumber a_BadSign a_BadText a_Condition a_ElseputError a_Reader a_TooLarge) (c__law_draw : Cal P w K mg base CX0 1 "_law_draw" f__law_draw fd__law_draw ["_law_state_here", "_law_many"] (sp__law_draw K)) : FnOk P w K mg base CX0 2 f fd ["_law_state_here", "_law_many"] (sp__law_names K) := by
  refine F.ok sc__law_names (fun vs H Q E h => len__law_names h) (fun cdv A outer s H vs Q E hr h => ?_)
  obtain ⟨st, scr, n, rfl, hd, hn, q⟩ := h
  refine ⟨_, (pss_cons (ps_set (i := 2) sc__law_names.nd rfl (.inl rfl) pe_str) (pss_cons (ps_set (i := 3) sc__law_names.nd rfl (.inl rfl) (pe_call c__law_draw.G (hr.mono (by first | decide | omega)) rfl c__law_draw.m c__law_draw.kp c__law_draw.b .nil pass0 (pa_cons (v_ 0) (pa_cons pe_int pa_nil)))) (pss_cons (ps_set (i := 4) sc__law_names.nd rfl (.inl rfl) (pe_call c__law_draw.G (hr.mono (by first | decide | omega)) rfl c__law_draw.m c__law_draw.kp c__law_draw.b .nil pass0 (pa_cons (v_ 0) (pa_cons pe_int pa_nil)))) (pss_cons (ps_set (i := 5) sc__law_names.nd rfl (.inl rfl) (pe_call c__law_draw.G (hr.mono (by first | decide | omega)) rfl c__law_draw.m c__law_draw.kp c__law_draw.b .nil pass0 (pa_cons (v_ 0) (pa_cons pe_int pa_nil)))) (pss_cons (ps_set (i := 6) sc__law_names.nd rfl (.inl rfl) (pe_call c__law_draw.G (hr.mono (by first | decide | omega)) rfl c__law_draw.m c__law_draw.kp c__law_draw.b .nil pass0 (pa_cons (v_ 0) (pa_cons pe_int pa_nil)))) (pss_cons (ps_set (i := 7) sc__law_names.nd rfl (.inl rfl) pe_str) (pss_cons (ps_for PassesOwn.never rfl (pi_range1 rfl T.z_range (pa_cons pe_int pa_nil)) (pg_name (i := 8) sc__law_names.nd rfl (.inl rfl)) (pss_cons (ps_set (i := 7) sc__law_names.nd rfl (.inl rfl) (pe_op (addK K) (v_ 7) (e_x K (v_ 2) (pe_op op_modM (pe_callTy call_intM (by rfl) T.z_int (by decide +kernel) (pa_cons (v_ 5) pa_nil)) pe_int)))) (pss_one (ps_set (i := 5) sc__law_names.nd rfl (.inl rfl) (pe_op op_divM (pe_callTy call_intM (by rfl) T.z_int (by decide +kernel) (pa_cons (v_ 5) pa_nil)) pe_int))))) (pss_cons (ps_set (i := 9) sc__law_names.nd rfl (.inl rfl) (pe_lst (pa_cons pe_str (pa_cons pe_str (pa_cons pe_str (pa_cons pe_str (pa_cons pe_str (pa_cons pe_str (pa_cons pe_str (pa_cons pe_str (pa_cons pe_str (pa_cons pe_str (pa_cons pe_str (pa_cons pe_str pa_nil)))))))))))))) (pss_cons (ps_set (i := 9) sc__law_names.nd rfl (.inl rfl) (pe_op (addK K) (v_ 9) (pe_lst (pa_cons pe_str (pa_cons pe_str (pa_cons pe_str (pa_cons pe_str (pa_cons pe_str (pa_cons pe_str pa_nil))))))))) (pss_cons (ps_set (i := 10) sc__law_names.nd rfl (.inl rfl) (pe_lst pa_nil)) (pss_cons (ps_for PassesOwn.never rfl (pi_range1 rfl T.z_range (pa_cons (v_ 1) pa_nil)) (pg_name (i := 8) sc__law_names.nd rfl (.inl rfl)) (pss_cons (ps_set (i := 11) sc__law_names.nd rfl (.inl rfl) (e_x K (v_ 2) (pe_op op_modM (pe_callTy call_intM (by rfl) T.z_int (by decide +kernel) (pa_cons (pe_op (addK K) (v_ 4) (pe_op op_mulSM pe_int (v_ 8))) pa_nil)) pe_int))) (Evl.pss_cut (ps_if (pt_c (eqK K hr.units) (v_ 3) pe_int) (pss_one (ps_set (i := 11) sc__law_names.nd rfl (.inl rfl) (pe_op (addK K) (pe_op (addK K) (pe_slice (slK K) (v_ 7) po_none (po_some (v_ 6))) (v_ 11)) (pe_slice (slK K) (v_ 7) (po_some (v_ 6)) po_none)))) pss_nil) (Evl.pss_cut (ps_if (pt_c (eqK K hr.units) (v_ 3) pe_int) (pss_one (ps_set (i := 11) sc__law_names.nd rfl (.inl rfl) (pe_op (addK K) (v_ 11) (pe_slice (slK K) (v_ 7) po_none (po_some (pe_op op_modM (pe_callTy call_intM (by rfl) T.z_int (by decide +kernel) (pa_cons (pe_op (addK K) (pe_op op_mulSM pe_int (v_ 8)) (v_ 6)) pa_nil)) pe_int)))))) pss_nil) (Evl.pss_cut (ps_if (pt_c (eqK K hr.units) (v_ 3) pe_int) (pss_one (ps_set (i := 11) sc__law_names.nd rfl (.inl rfl) (pe_op (addK K) (pe_op (addK K) (pe_slice (slK K) (v_ 7) po_none (po_some pe_int)) (v_ 11)) (v_ 7)))) pss_nil) (Evl.pss_cut (ps_if (pt_c (inK K) (v_ 11) (v_ 9)) (pss_one (ps_set (i := 11) sc__law_names.nd rfl (.inl rfl) (pe_op (addK K) (v_ 11) pe_str))) pss_nil) (pss_one (ps_expr (pe_bm PySem.F.plainAttrs_list PySem.F.slot_list_append PySem.F.type_list_append mt_append (v_ 10) (pa_cons (v_ 11) pa_nil)))))))))) (pss_one (ps_ret (v_ 10)))))))))))))), ?_⟩
  refine ⟨st, scr, _, rfl, hd, by decide, many_small (by decide) (by decide), fun sty l1 s0 s1 hd1 => ?_⟩
  have b1 : Bt st H (upd H st (.lst l1)) := Bt.st
  generalize upd H st (.lst l1) = H1 at hd1 b1 ⊢
  refine ⟨st, scr, _, rfl, hd1, by decide, many_small (by decide) (by decide), fun sh l2 h0 h1 hd2 => ?_⟩
  have b2 := b1.trans (Bt.st (st := st) (o := .lst l2))
  generalize upd H1 st (.lst l2) = H2 at hd2 b2 ⊢
  refine ⟨st, scr, _, rfl, hd2, by decide, many_small (by decide) (by decide), fun cd l3 c0 c1 hd3 => ?_⟩
  have b3 := b2.trans (Bt.st (st := st) (o := .lst l3))
  generalize upd H2 st (.lst l3) = H3 at hd3 b3 ⊢
  refine ⟨st, scr, _, rfl, hd3, by decide, many_small (by decide) (by decide), fun spt l4 p0 p1 hd4 => ?_⟩
  have b4 := b3.trans (Bt.st (st := st) (o := .lst l4))
  generalize upd H3 st (.lst l4) = H4 at hd4 b4 ⊢
  refine ⟨6, rfl, by decide, by decide, ?_⟩
  refine for_range (lo := 0) (n := 6) (fun i σ' H' => ∃ (z : Str) (code : Int) (y : Option V), σ' = [some (.ref st), some (.int n), some (.str letters), some (.int sty), some (.int sh), some (.int code), some (.int spt), some (.str z), y, none, none, none] ∧ H' = H4 ∧ z.length = i ∧ ∀ d ∈ z.cps.toList, d ∈ letters.cps.toList) ?_ ?_ ?_
  · exact ⟨_, _, _, rfl, rfl, rfl, fun _ h => nomatch h⟩
  · rintro i σ' H' hi ⟨z, code, y, rfl, rfl, hz, ha⟩
    refine ⟨by decide, ?_⟩
    have r0 := Int.emod_nonneg code (by decide : (26 : Int) ≠ 0)
    have r1 := Int.emod_lt_of_pos code (by decide : (0 : Int) < 26)
    refine ⟨line_of (by decide +kernel), _, letter_at r0 r1, line_of (by rw [one_len]; omega), ?_⟩
    refine ⟨.inl ⟨by decide, by decide⟩, ?_⟩
    refine ⟨_, _, _, rfl, rfl, by rw [len_add, one_len, hz], fun d hd => ?_⟩
    rw [cps_add, one_cps] at hd
    rcases List.mem_append.mp hd with h | h
    · exact ha d h
    · rw [List.mem_singleton.mp h]
      exact letter_mem (by omega)
  rintro σ' H' ⟨bs, code, y, rfl, rfl, hz, ha⟩
  have hbl : bs.cps.toList.length = 6 := by rw [len_cps]; exact hz
  refine ⟨(by show 12 ≤ sizeLine; decide), fun o no => ?_⟩
  refine ⟨(by show 6 ≤ sizeLine; decide), fun p np => ?_⟩
  have hpo := new_ne np
  refine .inl ⟨_, _, (by rw [upd_ne hpo.symm, upd_same]), upd_same, (by show 18 ≤ sizeLine; decide), fun rv nrv => ?_⟩
  have sm := ((same_new (o := .lst [.str "always", .str "never", .str "and", .str "or", .str "not", .str "when", .str "add", .str "set", .str "change", .str "tell", .str "refuse", .str "take"]) no).trans (same_new (o := .lst [.str "look", .str "free", .str "lock", .str "keep", .str "keys", .str "fields"]) np)).trans (same_new (o := .lst resv) nrv)
  generalize hH5 : upd _ rv _ = H5
  have hrv : H5 rv = some (.lst resv) := by rw [← hH5]; exact upd_same
  have hd5 : DrAt H5 st scr := by rw [← hH5]; exact hd4.new sm
  have b5 : Bt st H H5 := by rw [← hH5]; exact b4.trans (Bt.same (st := st) sm)
  clear hH5
  refine ⟨Nat.zero_le _, fun L nL => ?_⟩
  generalize hH6 : upd _ L _ = H6
  have hrv2 : H6 rv = some (.lst resv) := by rw [← hH6]; exact same_new nL _ _ hrv
  have hd6 : DrAt H6 st scr := by rw [← hH6]; exact hd5.new (same_new nL)
  have b6 : Bt st H H6 := by rw [← hH6]; exact b5.trans (Bt.same (st := st) (same_new nL))
  have L0 : H L = none := b5.free (hd5.ne_new nL) nL
  have eL : H6 L = some (.lst []) := by rw [← hH6]; exact upd_same
  have Ls : L ≠ st := hd5.ne_new nL
  have Lc : L ≠ scr := hd5.ne_scr nL
  have Lrv : rv ≠ L := ne_of_none hrv nL
  clear hH6
  refine ⟨n, rfl, by omega, by omega, ?_⟩
  obtain ⟨ps, hps⟩ : ∃ ps : Nat, ps = if sty = 1 then spt.toNat else if sty = 3 then 5 else 0 := ⟨_, rfl⟩
  refine for_range (lo := 0) (n := n) (fun i σ' H' => ∃ (y z : Option V) (zs : List Str), σ' = [some (.ref st), some (.int n), some (.str letters), some (.int sty), some (.int sh), some (.int code), some (.int spt), some (.str bs), y, some (.ref rv), some (.ref L), z] ∧ H' = upd H6 L (.lst (zs.map V.str)) ∧ zs.length = i ∧
    ∀ (j : Nat) (z : Str), zs[j]? = some z → Lt z ps (97 + ((sh + 7 * (j : Int)) % 26).toNat) ∧ inV (.str z) resv = false) ?_ ?_ ?_
  · exact ⟨_, _, [], rfl, (upd_id eL).symm, rfl, fun j z h => nomatch h⟩
  · rintro i σ' H' hi ⟨y, z, zs, rfl, rfl, hzl, hzs⟩
    have r0 := Int.emod_nonneg (sh + 7 * (0 + (i : Int))) (by decide : (26 : Int) ≠ 0)
    have r1 := Int.emod_lt_of_pos (sh + 7 * (0 + (i : Int))) (by decide : (0 : Int) < 26)
    refine ⟨.inl (.inl ⟨by decide, by decide⟩), by decide, ?_⟩
    refine ⟨line_of (by decide +kernel), _, letter_at r0 r1, ?_⟩
    have hcm := letter_mem (i := ((sh + 7 * (0 + (i : Int))) % 26).toNat) (by omega)
    rw [Int.zero_add] at hcm r0 r1 ⊢
    generalize hcc : 97 + ((sh + 7 * (i : Int)) % 26).toNat = ch at hcm ⊢
    have hrv3 : (upd H6 L (.lst (zs.map V.str))) rv = some (.lst resv) := by rw [upd_ne Lrv]; exact hrv2
    refine ⟨fun σ' H' => ∃ w : Str, σ' = [some (.ref st), some (.int n), some (.str letters), some (.int sty), some (.int sh), some (.int code), some (.int spt), some (.str bs), some (.int i), some (.ref rv), some (.ref L), some (.str w)] ∧ H' = upd H6 L (.lst (zs.map V.str)) ∧ (sty = 1 → Lt w ps ch) ∧ (sty ≠ 1 → w = ⟨#[ch]⟩), ?_, ?_⟩
    · refine ite2 (fun e => ?_) (fun e => ?_)
      · have e : sty = 1 := of_decide_eq_true e
        have l1 := cutS_length bs none (some spt)
        have l2 := cutS_length bs (some spt) none
        have e1 := cutS_take bs (k := spt.toNat)
        have e2 := cutS_drop bs (k := spt.toNat)
        rw [show ((spt.toNat : Nat) : Int) = spt by omega] at e1 e2
        refine ⟨_, rfl, line_of (by omega), line_of (by rw [one_len]; omega), _, rfl, line_of (by omega), line_of (by rw [len_add, one_len]; omega), ?_⟩
        refine ⟨_, rfl, rfl, fun _ => ⟨fun d hd => ?_, ?_, ?_⟩, fun h => absurd e h⟩
        · rw [cps_add, cps_add, e1, e2, one_cps] at hd
          rcases List.mem_append.mp hd with h | h
          · rcases List.mem_append.mp h with h | h
            · exact ha d (List.mem_of_mem_take h)
            · rw [List.mem_singleton.mp h]; exact hcm
          · exact ha d (List.mem_of_mem_drop h)
        · have hps1 : ps = spt.toNat := by rw [hps, if_pos e]
          rw [cps_add, cps_add, e1, e2, one_cps, hps1, List.append_assoc, List.getElem?_append_right (by rw [List.length_take]; omega), List.length_take, hbl, Nat.min_eq_left (by omega), Nat.sub_self]
          rfl
        · rw [len_add, len_add, ← len_cps (cutS bs none (some spt)), ← len_cps (cutS bs (some spt) none), e1, e2, one_len, List.length_take, List.length_drop]
          omega
      · have e : ¬ sty = 1 := of_decide_eq_false (Bool.eq_false_iff.mpr e)
        exact ⟨_, rfl, rfl, fun h => absurd h e, fun _ => rfl⟩
    rintro σ' H' ⟨w, rfl, rfl, g1, g2⟩
    refine ⟨fun σ' H' => ∃ w : Str, σ' = [some (.ref st), some (.int n), some (.str letters), some (.int sty), some (.int sh), some (.int code), some (.int spt), some (.str bs), some (.int i), some (.ref rv), some (.ref L), some (.str w)] ∧ H' = upd H6 L (.lst (zs.map V.str)) ∧ (sty ≠ 3 → Lt w ps ch) ∧ (sty = 3 → w = ⟨#[ch]⟩), ?_, ?_⟩
    · refine ite2 (fun e => ?_) (fun e => ?_)
      · have e : sty = 2 := of_decide_eq_true e
        have hw := g2 (by omega)
        subst hw
        have r2 := Int.emod_nonneg (3 * (i : Int) + spt) (by decide : (7 : Int) ≠ 0)
        have e1 := cutS_take bs (k := ((3 * (i : Int) + spt) % 7).toNat)
        rw [show ((((3 * (i : Int) + spt) % 7).toNat : Nat) : Int) = (3 * (i : Int) + spt) % 7 by omega] at e1
        have l1 := cutS_length bs none (some ((3 * (i : Int) + spt) % 7))
        refine ⟨.inl (.inl ⟨by decide, by decide⟩), by decide, _, rfl, line_of (by omega), line_of (by rw [one_len]; omega), ?_⟩
        refine ⟨_, rfl, rfl, fun _ => ⟨fun d hd => ?_, ?_, ?_⟩, fun h => absurd h (by omega)⟩
        · rw [cps_add, e1, one_cps] at hd
          rcases List.mem_append.mp hd with h | h
          · rw [List.mem_singleton.mp h]; exact hcm
          · exact ha d (List.mem_of_mem_take h)
        · have hps1 : ps = 0 := by rw [hps, if_neg (by omega), if_neg (by omega)]
          rw [cps_add, one_cps, hps1]
          rfl
        · rw [len_add, one_len]
          omega
      · have e : ¬ sty = 2 := of_decide_eq_false (Bool.eq_false_iff.mpr e)
        refine ⟨w, rfl, rfl, fun h3 => ?_, fun h3 => g2 (by omega)⟩
        by_cases h1 : sty = 1
        · exact g1 h1
        · have hw := g2 h1
          subst hw
          refine ⟨fun d hd => ?_, ?_, by rw [one_len]; decide⟩
          · rw [List.mem_singleton.mp hd]; exact hcm
          · have hps1 : ps = 0 := by rw [hps, if_neg h1, if_neg h3]
            rw [hps1]
            rfl
    rintro σ' H' ⟨w, rfl, rfl, g1, g2⟩
    refine ⟨fun σ' H' => ∃ w : Str, σ' = [some (.ref st), some (.int n), some (.str letters), some (.int sty), some (.int sh), some (.int code), some (.int spt), some (.str bs), some (.int i), some (.ref rv), some (.ref L), some (.str w)] ∧ H' = upd H6 L (.lst (zs.map V.str)) ∧ Lt w ps ch, ?_, ?_⟩
    · refine ite2 (fun e => ?_) (fun e => ?_)
      · have e : sty = 3 := of_decide_eq_true e
        have hw := g2 e
        subst hw
        have e1 := cutS_take bs (k := 5)
        have l1 := cutS_length bs none (some 5)
        refine ⟨_, rfl, line_of (by omega), line_of (by rw [one_len]; omega), line_of (by rw [len_add, one_len]; omega), ?_⟩
        refine ⟨_, rfl, rfl, fun d hd => ?_, ?_, ?_⟩
        · rw [cps_add, cps_add, show (cutS bs none (some (5 : Int))).cps.toList = bs.cps.toList.take 5 from e1, one_cps] at hd
          rcases List.mem_append.mp hd with h | h
          · rcases List.mem_append.mp h with h | h
            · exact ha d (List.mem_of_mem_take h)
            · rw [List.mem_singleton.mp h]; exact hcm
          · exact ha d h
        · have hps1 : ps = 5 := by rw [hps, if_neg (by omega), if_pos e]
          rw [cps_add, cps_add, show (cutS bs none (some (5 : Int))).cps.toList = bs.cps.toList.take 5 from e1, one_cps, hps1, List.append_assoc, List.getElem?_append_right (by rw [List.length_take]; omega), List.length_take, hbl]
          rfl
        · rw [len_add, len_add, ← len_cps (cutS bs none (some (5 : Int))), show (cutS bs none (some (5 : Int))).cps.toList = bs.cps.toList.take 5 from e1, one_len, List.length_take]
          omega
      · have e : ¬ sty = 3 := of_decide_eq_false (Bool.eq_false_iff.mpr e)
        exact ⟨w, rfl, rfl, g1 e⟩
    rintro σ' H' ⟨w, rfl, rfl, g1⟩
    refine ⟨fun σ' H' => ∃ w : Str, σ' = [some (.ref st), some (.int n), some (.str letters), some (.int sty), some (.int sh), some (.int code), some (.int spt), some (.str bs), some (.int i), some (.ref rv), some (.ref L), some (.str w)] ∧ H' = upd H6 L (.lst (zs.map V.str)) ∧ Lt w ps ch ∧ inV (.str w) resv = false, ?_, ?_⟩
    · refine ⟨_, .inl (SqL.of hrv3), rfl, rfl, ?_⟩
      refine ite2 (fun e => ?_) (fun e => ?_)
      · have e : inV (.str w) resv = true := e
        obtain ⟨z1, z2⟩ := resv_z e
        exact ⟨line_of (by show w.length + 1 ≤ _; omega), _, rfl, rfl, g1.z z2, z1⟩
      · exact ⟨w, rfl, rfl, g1, Bool.eq_false_iff.mpr e⟩
    rintro σ' H' ⟨w, rfl, rfl, g1, gr⟩
    refine ⟨.inl ⟨rfl, _, SqL.of upd_same⟩, L, _, _, rfl, rfl, upd_same, line_lt (by rw [List.length_map]; omega), ?_⟩
    refine ⟨_, _, zs ++ [w], rfl, ?_, by rw [List.length_append, hzl]; rfl, fun j z hj => ?_⟩
    · rw [upd_upd, List.map_append]
      rfl
    · by_cases h : j < zs.length
      · rw [List.getElem?_append_left h] at hj
        exact hzs j z hj
      · rw [List.getElem?_append_right (by omega)] at hj
        have hj0 : j - zs.length = 0 := by
          have := (List.getElem?_eq_some_iff.mp hj).1
          rw [List.length_singleton] at this
          omega
        rw [hj0] at hj
        cases hj
        rw [show j = i by omega, hcc]
        exact ⟨g1, gr⟩
  · rintro σ' H' ⟨y, z, zs, rfl, rfl, hzl, hzs⟩
    refine q _ L zs ?_ (hd6.at Ls Lc) L0 upd_same (by omega) (fun z hz => ?_) ?_
    · intro b o nb hb
      rw [upd_ne (ne_of_none hb L0)]
      exact b6 b o nb hb
    · obtain ⟨j, hj, e⟩ := List.getElem_of_mem hz
      obtain ⟨h1, h2⟩ := hzs j z (by rw [List.getElem?_eq_getElem hj, e])
      exact ⟨h1.name h2, h1.2.2⟩
    · show List.Pairwise (· ≠ ·) zs
      rw [List.pairwise_iff_getElem]
      intro i j hi hj hij e
      have ej : zs[j]? = some zs[j] := List.getElem?_eq_getElem hj
      have ei : zs[i]? = some zs[j] := by rw [← e]; exact List.getElem?_eq_getElem hi
      obtain ⟨h1, _⟩ := hzs i _ ei
      obtain ⟨h2, _⟩ := hzs j _ ej
      have := h1.2.1.symm.trans h2.2.1
      have := Option.some.inj this
      omega
end
section
variable {P : Program} {w : World} {K : PySem.W.Frag} {mg : Str → Option Value} {base : Heap}
variable {t_BOUND t_DIGITS t_LETTERS t_LONGEST_INTEGER t_LONGEST_NAME t_MOST_NESTED : Tok} {a_ALWAYS a_MARKS a_NEVER a_OPPOSITES a_RESERVED a_SIGNS a_BadName a_BadNumber a_BadSign a_BadText a_Condition a_ElseputError a_Reader a_TooLarge : Addr}
theorem letters_cps : letters.cps.toList = El.LT := by decide +kernel
theorem digits_cps : ("0123456789" : Str).cps.toList = DG := by decide +kernel
theorem at_head {z : Str} (h : 0 < z.length) : atI z.cps.toList 0 = some (z.cps.toList.headD 0) := by
  have h2 := len_cps z
  cases e : z.cps.toList with
  | nil => rw [e] at h2; rw [← h2] at h; exact absurd h (by decide)
  | cons a r => exact atI_nat (j := 0) rfl
theorem at_last {z : Str} (h : 0 < z.length) : atI z.cps.toList (-1) = some (z.cps.toList.getLastD 0) := by
  have h2 := len_cps z
  generalize z.cps.toList = xs at h2 ⊢
  have hp : 0 < xs.length := by omega
  unfold atI ixN
  rw [if_neg (by decide), if_pos (by omega)]
  show xs[((-1 : Int) + (xs.length : Int)).toNat]? = _
  rw [show ((-1 : Int) + (xs.length : Int)).toNat = xs.length - 1 by omega, ← List.getLast?_eq_getElem?]
  cases xs with
  | nil => exact absurd hp (by decide)
  | cons a r => rw [List.getLast?_cons, List.getLastD_cons, List.getLastD_eq_getLast?]
theorem inV_strC {z : Str} : ∀ {xs : List Str}, inV (.str z) (xs.map V.str) = decide (z.cps.toList ∈ xs.map (·.cps.toList))
  | [] => rfl
  | a :: r => by
    have ih := inV_strC (z := z) (xs := r)
    unfold inV at ih ⊢
    rw [List.map_cons, List.any_cons, ih, List.map_cons]
    have : eqV (.str a) (.str z) = decide (z.cps.toList = a.cps.toList) := by
      show (a == z) = _
      rw [Bool.eq_iff_iff, beq_iff_eq, decide_eq_true_iff, str_eq, eq_comm]
    rw [this, Bool.eq_iff_iff, Bool.or_eq_true, decide_eq_true_iff, decide_eq_true_iff, decide_eq_true_iff, List.mem_cons]
theorem one_eq {c d : Nat} {s : Str} (h : s.cps.toList = [d]) : ((⟨#[c]⟩ : Str) = s) ↔ c = d := by
  rw [str_eq, h, one_cps]
  simp
/-! ### run_end -/
def runN (f : Nat → Bool) (l : List Nat) : Nat := (l.takeWhile f).length
theorem runN_le (f : Nat → Bool) (l : List Nat) : runN f l ≤ l.length := (List.takeWhile_sublist f).length_le
def sp_run_end (K : PySem.W.Frag) : Sp := fun vs H Q _ => ∃ (z cs : Str) (a : Nat), vs = [.str z, .int a, .str cs] ∧ a ≤ z.length ∧ z.length ≤ 20000 ∧ Q (.int ((a + runN (fun c => decide (c ∈ cs.cps.toList)) (z.cps.toList.drop a) : Nat) : Int)) H
theorem len_run_end {vs : List V} {H : Hp} {Q : VK} {E : XK} (h : sp_run_end K vs H Q E) : vs.length = 3 := by
  obtain ⟨_, _, _, rfl, _⟩ := h
  rfl
theorem drop_cons {z : Str} {e : Nat} (h : e < z.length) : ∃ c, z.cps.toList[e]? = some c ∧ z.cps.toList.drop e = c :: z.cps.toList.drop (e + 1) := by
  have hl : e < z.cps.toList.length := by rw [len_cps]; exact h
  exact ⟨_, List.getElem?_eq_getElem hl, List.drop_eq_getElem_cons hl⟩
theorem ok_run_end {f : Addr} {fd : FuncData} (F : Fun K "run_end" "run_end" s_run_end f fd) (T : Gs K mg t_BOUND t_DIGITS t_LETTERS t_LONGEST_INTEGER t_LONGEST_NAME t_MOST_NESTED a_ALWAYS a_MARKS a_NEVER a_OPPOSITES a_RESERVED a_SIGNS a_BadName a_BadNumber a_BadSign a_BadText a_Condition a_ElseputError a_Reader a_TooLarge) : FnOk P w K mg base CX0 1 f fd ["line", "at", "characters"] (sp_run_end K) := by
  refine F.ok sc_run_end (fun vs H Q E h => len_run_end h) (fun cdv A outer s H vs Q E hr h => ?_)
  obtain ⟨z, cs, a, rfl, ha, hz, q⟩ := h
  refine ⟨_, (pss_cons (ps_set (i := 3) sc_run_end.nd rfl (.inl rfl) (v_ 1)) (pss_cons (ps_while PassesOwn.never (PW.pt (pw_and (pt_c op_ltM (v_ 3) (pe_callB (lenK K) (by rfl) T.z_len PySem.boot_len (pa_cons (v_ 0) pa_nil))) (pw_and1 (pt_c (inK K) (e_x K (v_ 0) (v_ 3)) (v_ 2))))) (pss_one (ps_aug (i := 3) sc_run_end.nd rfl (.inl rfl) pe_int ip_add))) (pss_one (ps_ret (v_ 3))))), ?_⟩
  generalize hf : (fun c => decide (c ∈ cs.cps.toList)) = f at q
  refine ⟨fun m σ' H' => ∃ e : Nat, m = z.length - e ∧ a ≤ e ∧ e ≤ z.length ∧ σ' = [some (.str z), some (.int a), some (.str cs), some (.int e)] ∧ H' = H ∧ a + runN f (z.cps.toList.drop a) = e + runN f (z.cps.toList.drop e), ⟨_, a, rfl, Nat.le_refl _, ha, rfl, rfl, rfl⟩, ?_⟩
  rintro m σ' H' ⟨e, rfl, h1, h2, rfl, rfl, he⟩
  refine ⟨line_of (by omega), ?_⟩
  have stop : runN f (z.cps.toList.drop e) = 0 → Q (.int e) H' := fun h => by
    rw [he, h, Nat.add_zero] at q
    exact q
  refine ite2 (fun e1 => ?_) (fun e1 => ?_)
  · have e1 : (e : Int) < z.length := of_decide_eq_true e1
    obtain ⟨c, hc, hd⟩ := drop_cons (z := z) (e := e) (by omega)
    refine ⟨line_of (by omega), c, atI_nat hc, c, rfl, ?_⟩
    have hfc : decide (c ∈ cs.cps.toList) = f c := by rw [← hf]
    cases hb : f c with
    | true =>
      have : decide (c ∈ cs.cps.toList) = true := hfc.trans hb
      simp only [this, if_true]
      refine ⟨fun σ2 H2 => ∃ m', m' < z.length - e ∧ ∃ e : Nat, m' = z.length - e ∧ a ≤ e ∧ e ≤ z.length ∧ σ2 = [some (.str z), some (.int a), some (.str cs), some (.int e)] ∧ H2 = H' ∧ a + runN f (z.cps.toList.drop a) = e + runN f (z.cps.toList.drop e), fun _ _ h => h, ?_⟩
      refine ⟨_, rfl, _, _, rfl, rfl, _, (by omega : z.length - (e + 1) < z.length - e), e + 1, rfl, by omega, by omega, ?_, rfl, ?_⟩
      · rfl
      · rw [he, hd]
        unfold runN
        rw [List.takeWhile_cons, hb, if_pos rfl, List.length_cons]
        omega
    | false =>
      have : decide (c ∈ cs.cps.toList) = false := hfc.trans hb
      simp only [this, Bool.false_eq_true, if_false]
      refine stop ?_
      rw [hd]
      unfold runN
      rw [List.takeWhile_cons, hb]
      rfl
  · have e1 : ¬ (e : Int) < z.length := of_decide_eq_false (Bool.eq_false_iff.mpr e1)
    refine stop ?_
    have h3 : (z.cps.toList.drop e).length = 0 := by
      rw [List.length_drop, len_cps]
      omega
    have := runN_le f (z.cps.toList.drop e)
    omega

/-! ### token_end -/
theorem cutS_mid {z : Str} {a b : Nat} (h : a ≤ b) : (cutS z (some (a : Int)) (some (b : Int))).cps.toList = (z.cps.toList.drop a).take (b - a) := by
  unfold cutS
  rw [List.toList_toArray, HT.sIx_nat, HT.sIx_nat]
  by_cases ha : a ≤ z.length
  · rw [Nat.min_eq_left ha, List.take_eq_take_iff, List.length_drop, len_cps]
    omega
  · rw [Nat.min_eq_right (by omega : z.length ≤ a), List.drop_of_length_le (by rw [len_cps]; exact Nat.le_refl _), List.drop_of_length_le (by rw [len_cps]; omega), List.take_nil, List.take_nil]
theorem tokLen_run (c : Nat) (r : List Nat) : tokLen (c :: r) = if isL c then runN isL (c :: r) else if isD c then runN isD (c :: r) else if c = 45 then (if runN isD r = 0 then 0 else 1 + runN isD r) else if inSM ((c :: r).take 2) then ((c :: r).take 2).length else if inSM [c] then 1 else 0 := rfl
theorem isL_fn : (fun c => decide (c ∈ letters.cps.toList)) = isL := funext fun c => by rw [letters_cps]; rfl
theorem isD_fn : (fun c => decide (c ∈ ("0123456789" : Str).cps.toList)) = isD := funext fun c => by rw [digits_cps]; rfl
def sp_token_end (K : PySem.W.Frag) : Sp := fun vs H Q _ => ∃ (z : Str) (a : Nat), vs = [.str z, .int a] ∧ a < z.length ∧ z.length ≤ 20000 ∧ ∀ H', Same H H' → Q (.int ((a + tokLen (z.cps.toList.drop a) : Nat) : Int)) H'
theorem len_token_end {vs : List V} {H : Hp} {Q : VK} {E : XK} (h : sp_token_end K vs H Q E) : vs.length = 2 := by
  obtain ⟨_, _, rfl, _⟩ := h
  rfl
theorem sg_in {z : Str} : inV (.str z) [.str "<", .str "<=", .str "==", .str "!=", .str ">=", .str ">"] = decide (z.cps.toList ∈ SG) := by
  refine (inV_strC (z := z) (xs := ["<", "<=", "==", "!=", ">=", ">"])).trans ?_
  rw [show (["<", "<=", "==", "!=", ">=", ">"] : List Str).map (·.cps.toList) = SG by decide +kernel]
theorem mk_in {z : Str} : inV (.str z) [.str "(", .str ")", .str ",", .str ";", .str ":"] = decide (z.cps.toList ∈ MK) := by
  refine (inV_strC (z := z) (xs := ["(", ")", ",", ";", ":"])).trans ?_
  rw [show (["(", ")", ",", ";", ":"] : List Str).map (·.cps.toList) = MK by decide +kernel]
theorem ok_token_end {f : Addr} {fd : FuncData} {f_run_end : Addr} {fd_run_end : FuncData} (F : Fun K "token_end" "token_end" s_token_end f fd) (T : Gs K mg t_BOUND t_DIGITS t_LETTERS t_LONGEST_INTEGER t_LONGEST_NAME t_MOST_NESTED a_ALWAYS a_MARKS a_NEVER a_OPPOSITES a_RESERVED a_SIGNS a_BadName a_BadNumber a_BadSign a_BadText a_Condition a_ElseputError a_Reader a_TooLarge) (c_run_end : Cal P w K mg base CX0 1 "run_end" f_run_end fd_run_end ["line", "at", "characters"] (sp_run_end K)) : FnOk P w K mg base CX0 2 f fd ["line", "at"] (sp_token_end K) := by
  refine F.ok sc_token_end (fun vs H Q E h => len_token_end h) (fun cdv A outer s H vs Q E hr h => ?_)
  obtain ⟨z, a, rfl, ha, hz, q⟩ := h
  refine ⟨_, (pss_cons (ps_if (pt_c (inK K) (e_x K (v_ 0) (v_ 1)) (pe_glob (v := .str "abcdefghijklmnopqrstuvwxyz") rfl T.g_LETTERS ⟨_, rfl⟩)) (pss_one (ps_ret (pe_call c_run_end.G (hr.mono (by first | decide | omega)) rfl c_run_end.m c_run_end.kp c_run_end.b .nil pass0 (pa_cons (v_ 0) (pa_cons (v_ 1) (pa_cons (pe_glob (v := .str "abcdefghijklmnopqrstuvwxyz") rfl T.g_LETTERS ⟨_, rfl⟩) pa_nil)))))) pss_nil) (pss_cons (ps_if (pt_c (inK K) (e_x K (v_ 0) (v_ 1)) (pe_glob (v := .str "0123456789") rfl T.g_DIGITS ⟨_, rfl⟩)) (pss_one (ps_ret (pe_call c_run_end.G (hr.mono (by first | decide | omega)) rfl c_run_end.m c_run_end.kp c_run_end.b .nil pass0 (pa_cons (v_ 0) (pa_cons (v_ 1) (pa_cons (pe_glob (v := .str "0123456789") rfl T.g_DIGITS ⟨_, rfl⟩) pa_nil)))))) pss_nil) (pss_cons (ps_if (pt_c (eqK K hr.units) (e_x K (v_ 0) (v_ 1)) pe_str) (pss_cons (ps_set (i := 3) sc_token_end.nd rfl (.inl rfl) (pe_call c_run_end.G (hr.mono (by first | decide | omega)) rfl c_run_end.m c_run_end.kp c_run_end.b .nil pass0 (pa_cons (v_ 0) (pa_cons (pe_op (addK K) (v_ 1) pe_int) (pa_cons (pe_glob (v := .str "0123456789") rfl T.g_DIGITS ⟨_, rfl⟩) pa_nil))))) (pss_one (ps_ret (pe_ifExp (pt_c op_gtM (v_ 3) (pe_op (addK K) (v_ 1) pe_int)) (v_ 3) (v_ 1))))) pss_nil) (pss_cons (ps_for PassesOwn.never rfl (pi_tup (pe_tup (pa_cons (pe_slice (slK K) (v_ 0) (po_some (v_ 1)) (po_some (pe_op (addK K) (v_ 1) pe_int))) (pa_cons (e_x K (v_ 0) (v_ 1)) pa_nil)))) (pg_name (i := 2) sc_token_end.nd rfl (.inl rfl)) (pss_one (ps_if (PW.pt (pw_or (pt_c (inK K) (v_ 2) (pe_glob (v := .ref a_SIGNS) rfl T.g_SIGNS rfl)) (pw_or1 (pt_c (inK K) (v_ 2) (pe_glob (v := .ref a_MARKS) rfl T.g_MARKS rfl))))) (pss_one (ps_ret (pe_op (addK K) (v_ 1) (pe_callB (lenK K) (by rfl) T.z_len PySem.boot_len (pa_cons (v_ 2) pa_nil))))) pss_nil))) (pss_one (ps_ret (v_ 1))))))), ?_⟩
  obtain ⟨c, hc, hd⟩ := drop_cons (z := z) (e := a) (by omega)
  have hl : z.length ≤ sizeLine := line_of (by omega)
  have bf : ∀ {c : Bool}, ¬ c = true → c = false := fun h => Bool.eq_false_iff.mpr h
  have mL : decide (c ∈ letters.cps.toList) = isL c := congrFun isL_fn c
  have mD : decide (c ∈ ("0123456789" : Str).cps.toList) = isD c := congrFun isD_fn c
  have m45 : decide ((⟨#[c]⟩ : Str) = "-") = decide (c = 45) := by
    rw [Bool.eq_iff_iff, decide_eq_true_iff, decide_eq_true_iff, one_eq (d := 45) rfl]
  have q1 : ∀ {n : Nat} {H' : Hp}, Same H H' → tokLen (z.cps.toList.drop a) = n → Q (.int ((a + n : Nat) : Int)) H' := fun s e => e ▸ q _ s
  rw [hd, tokLen_run] at q1
  refine ⟨hl, c, atI_nat hc, c, rfl, ?_⟩
  refine ite2 (fun e1 => ?_) (fun e1 => ?_)
  · have e1 : isL c = true := mL.symm.trans e1
    refine ⟨z, _, a, rfl, by omega, hz, ?_⟩
    have := q1 (Same.refl H) (if_pos e1)
    rw [← hd] at this
    have e : (fun c => decide (c ∈ letters.cps.toList)) = isL := isL_fn
    rw [e]
    exact this
  have e1 : isL c = false := mL.symm.trans (bf e1)
  refine ⟨hl, c, atI_nat hc, c, rfl, ?_⟩
  refine ite2 (fun e2 => ?_) (fun e2 => ?_)
  · have e2 : isD c = true := mD.symm.trans e2
    refine ⟨z, _, a, rfl, by omega, hz, ?_⟩
    have := q1 (Same.refl H) ((if_neg (by rw [e1]; decide)).trans (if_pos e2))
    rw [← hd] at this
    have e : (fun c => decide (c ∈ ("0123456789" : Str).cps.toList)) = isD := isD_fn
    rw [e]
    exact this
  have e2 : isD c = false := mD.symm.trans (bf e2)
  have q2 : ∀ {n : Nat} {H' : Hp}, Same H H' → (if c = 45 then (if runN isD (z.cps.toList.drop (a + 1)) = 0 then 0 else 1 + runN isD (z.cps.toList.drop (a + 1))) else if inSM ((c :: z.cps.toList.drop (a + 1)).take 2) then ((c :: z.cps.toList.drop (a + 1)).take 2).length else if inSM [c] then 1 else 0) = n → Q (.int ((a + n : Nat) : Int)) H' := fun s e =>
    q1 s (((if_neg (by rw [e1]; decide)).trans (if_neg (by rw [e2]; decide))).trans e)
  refine ⟨hl, c, atI_nat hc, ?_⟩
  refine ite2 (fun e3 => ?_) (fun e3 => ?_)
  · have e3 : c = 45 := of_decide_eq_true (m45.symm.trans e3)
    refine ⟨z, _, a + 1, rfl, by omega, hz, ?_⟩
    have e : (fun c => decide (c ∈ ("0123456789" : Str).cps.toList)) = isD := isD_fn
    rw [e]
    generalize hk : runN isD (z.cps.toList.drop (a + 1)) = k at q2 ⊢
    have q2' := fun {n : Nat} (h : (if k = 0 then 0 else 1 + k) = n) => q2 (Same.refl H) ((if_pos e3).trans h)
    refine ite2 (fun e4 => ?_) (fun e4 => ?_)
    · have e4 : (a : Int) + 1 < ((a + 1 + k : Nat) : Int) := of_decide_eq_true e4
      have := q2' (if_neg (by omega))
      rw [← Nat.add_assoc] at this
      exact this
    · have e4 : ¬ (a : Int) + 1 < ((a + 1 + k : Nat) : Int) := of_decide_eq_false (bf e4)
      exact q2' (if_pos (by omega))
  have e3 : ¬ c = 45 := of_decide_eq_false (m45.symm.trans (bf e3))
  have q3 : ∀ {n : Nat} {H' : Hp}, Same H H' → (if inSM ((c :: z.cps.toList.drop (a + 1)).take 2) then ((c :: z.cps.toList.drop (a + 1)).take 2).length else if inSM [c] then 1 else 0) = n → Q (.int ((a + n : Nat) : Int)) H' := fun s e => q2 s ((if_neg e3).trans e)
  have hcut : (cutS z (some (a : Int)) (some ((a : Int) + 2))).cps.toList = (c :: z.cps.toList.drop (a + 1)).take 2 := by
    have := cutS_mid (z := z) (a := a) (b := a + 2) (by omega)
    rw [hd, show a + 2 - a = 2 by omega] at this
    exact this
  refine ⟨_, rfl, _, rfl, hl, hl, c, atI_nat hc, (by show 2 ≤ sizeLine; decide), fun t nt => ⟨t, rfl, ⟨_, .inl (.inl upd_same)⟩, ?_⟩⟩
  have hin : ∀ y : Str, inSM y.cps.toList = (inV (.str y) [.str "<", .str "<=", .str "==", .str "!=", .str ">=", .str ">"] || inV (.str y) [.str "(", .str ")", .str ",", .str ";", .str ":"]) := fun y => by
    rw [sg_in, mk_in]
    rfl
  have sm : Same H (upd H t (.tup [.str (cutS z (some (a : Int)) (some ((a : Int) + 2))), .str ⟨#[c]⟩])) := same_new nt
  refine for_tup (K := K) (a := t) (xs := [.str (cutS z (some (a : Int)) (some ((a : Int) + 2))), .str ⟨#[c]⟩]) (fun i σ' H' => H' = upd H t (.tup [.str (cutS z (some (a : Int)) (some ((a : Int) + 2))), .str ⟨#[c]⟩]) ∧ (∃ y w, σ' = [some (.str z), some (.int a), y, w]) ∧
    (1 ≤ i → inSM ((c :: z.cps.toList.drop (a + 1)).take 2) = false) ∧ (2 ≤ i → inSM [c] = false)) ⟨rfl, ⟨_, _, rfl⟩, fun h => absurd h (by decide), fun h => absurd h (by decide)⟩ (fun i σ' H' _ h => by rw [h.1]; exact .inl (.inl upd_same)) ?_ ?_
  · rintro i x σ' H' hi ⟨rfl, ⟨y, w, rfl⟩, g1, g2⟩
    obtain ⟨p, rfl, hp, hlen, hyes, hno⟩ : ∃ p : Str, x = .str p ∧ p.length ≤ 2 ∧ p.length ≤ sizeLine ∧ (inSM p.cps.toList = true → Q (.int ((a : Int) + p.length)) (upd H t (.tup [.str (cutS z (some (a : Int)) (some ((a : Int) + 2))), .str ⟨#[c]⟩]))) ∧
        (inSM p.cps.toList = false → (1 ≤ i + 1 → inSM ((c :: z.cps.toList.drop (a + 1)).take 2) = false) ∧ (2 ≤ i + 1 → inSM [c] = false)) := by
      match i, hi with
      | 0, hi =>
        cases hi
        have l2 : (cutS z (some (a : Int)) (some ((a : Int) + 2))).length = ((c :: z.cps.toList.drop (a + 1)).take 2).length := by rw [← hcut, len_cps]
        have l3 : ((c :: z.cps.toList.drop (a + 1)).take 2).length ≤ 2 := by rw [List.length_take]; omega
        refine ⟨_, rfl, by omega, line_of (by omega), fun h => ?_, fun h => ⟨fun _ => by rw [← hcut]; exact h, fun h2 => absurd h2 (by decide)⟩⟩
        rw [hcut] at h
        have := q3 sm (if_pos h)
        rw [← l2] at this
        exact this
      | 1, hi =>
        cases hi
        refine ⟨_, rfl, (by rw [one_len]; decide), line_of (by rw [one_len]; decide), fun h => ?_, fun h => ⟨fun _ => g1 (by decide), fun _ => h⟩⟩
        exact q3 sm ((if_neg (by rw [g1 (by decide)]; decide)).trans (if_pos h))
      | i + 2, hi => cases hi
    rw [hin] at hyes hno
    refine ⟨_, .inr (T.q_SIGNS _), rfl, rfl, ?_⟩
    refine ite2 (fun e5 => ?_) (fun e5 => ?_)
    · exact ⟨hlen, hyes (by rw [show inV (.str p) [.str "<", .str "<=", .str "==", .str "!=", .str ">=", .str ">"] = true from e5]; rfl)⟩
    refine ⟨_, .inr (T.q_MARKS _), rfl, rfl, ?_⟩
    refine ite2 (fun e6 => ?_) (fun e6 => ?_)
    · exact ⟨hlen, hyes (by rw [show inV (.str p) [.str "(", .str ")", .str ",", .str ";", .str ":"] = true from e6, Bool.or_true])⟩
    have := hno (by rw [show inV (.str p) [.str "<", .str "<=", .str "==", .str "!=", .str ">=", .str ">"] = false from bf e5, show inV (.str p) [.str "(", .str ")", .str ",", .str ";", .str ":"] = false from bf e6]; rfl)
    exact ⟨rfl, ⟨_, _, rfl⟩, this.1, this.2⟩
  · rintro σ' H' ⟨rfl, ⟨y, w, rfl⟩, g1, g2⟩
    have g1' := g1 (by show 1 ≤ 2; decide)
    have g2' := g2 (by show 2 ≤ 2; decide)
    exact q3 sm ((if_neg (by rw [g1']; decide)).trans (if_neg (by rw [g2']; decide)))

/-! ### split_line -/
def PairL (H : Hp) : List Addr → List (List Nat × Nat) → Prop
  | [], [] => True
  | t :: ts, x :: xs => (∃ z : Str, H t = some (.tup [.str z, .int (x.2 : Int)]) ∧ z.cps.toList = x.1) ∧ PairL H ts xs
  | _, _ => False
theorem PairL.same {H H' : Hp} (s : ∀ b o, (∃ z i, o = HO.tup [.str z, .int i]) → H b = some o → H' b = some o) : ∀ {ts : List Addr} {l : List (List Nat × Nat)}, PairL H ts l → PairL H' ts l
  | [], [], _ => trivial
  | t :: ts, x :: xs, ⟨⟨z, h1, h2⟩, h⟩ => ⟨⟨z, s _ _ ⟨_, _, rfl⟩ h1, h2⟩, PairL.same s h⟩
theorem PairL.snoc {H : Hp} {t : Addr} {z : Str} {n : Nat} (e : H t = some (.tup [.str z, .int (n : Int)])) : ∀ {ts : List Addr} {l : List (List Nat × Nat)}, PairL H ts l → PairL H (ts ++ [t]) (l ++ [(z.cps.toList, n)])
  | [], [], _ => ⟨⟨z, e, rfl⟩, trivial⟩
  | _ :: _, _ :: _, ⟨h1, h⟩ => ⟨h1, PairL.snoc e h⟩
theorem PairL.len {H : Hp} : ∀ {ts : List Addr} {l : List (List Nat × Nat)}, PairL H ts l → ts.length = l.length
  | [], [], _ => rfl
  | _ :: _, _ :: _, ⟨_, h⟩ => by rw [List.length_cons, List.length_cons, h.len]
/-- what split_line answers: the pairs, or the column of the strange sign in line num -/
def Splits (K : PySem.W.Frag) (H : Hp) (z : Str) (num : Int) (Q : VK) (E : XK) : Prop := match splitL z.cps.toList 1 with
  | .ok l => ∀ (H' : Hp) (p : Addr) (ts : List Addr), Same H H' → H p = none → H' p = some (.lst (ts.map V.ref)) → PairL H' ts l → Q (.ref p) H'
  | .error c => ∀ (C d : Addr) (H' : Hp), PySem.W.nsIn K mainGlobals "BadText" = some (some (.ref C)) → Same H H' → H d = none → H' d = some (.xd [("column", .int (c : Int)), ("line", .int num)]) → E (.ref C) (some d) H'
def sp_split_line (K : PySem.W.Frag) : Sp := fun vs H Q E => ∃ (z : Str) (num : Int), vs = [.str z, .int num] ∧ z.length ≤ 20000 ∧ 0 ≤ num ∧ num ≤ 100000 ∧ Splits K H z num Q E
theorem len_split_line {vs : List V} {H : Hp} {Q : VK} {E : XK} (h : sp_split_line K vs H Q E) : vs.length = 2 := by
  obtain ⟨_, _, rfl, _⟩ := h
  rfl
end
section
variable {P : Program} {w : World} {K : PySem.W.Frag} {mg : Str → Option Value} {base : Heap}
variable {t_BOUND t_DIGITS t_LETTERS t_LONGEST_INTEGER t_LONGEST_NAME t_MOST_NESTED : Tok} {a_ALWAYS a_MARKS a_NEVER a_OPPOSITES a_RESERVED a_SIGNS a_BadName a_BadNumber a_BadSign a_BadText a_Condition a_ElseputError a_Reader a_TooLarge : Addr}
def okx_BadText (ws : List V) : Prop := ∃ l c : Int, ws = [.int l, .int c] ∧ 0 ≤ l ∧ l ≤ 100000 ∧ 0 ≤ c ∧ c ≤ 100000
def fs_BadText (ws : List V) : List (Str × V) := match ws with | [l, c] => [("column", c), ("line", l)] | _ => []
theorem ok_BadText {C f cc cda : Addr} {doc pm ct oc ccl cl : Value} {od cdd cld : Option Addr} {osl ccs csl : Array (Option Value)} {vs0 : Array Value} {file : Str} {tf : Tok} {cdD : ClassData}
    (X : ExK K C f ["line", "column"]) (lk : K.lookup f = some ⟨oc, od, .func (PySem.W.fnX "__init__" "BadText.__init__" (defArgs s_BadText) (defBody s_BadText) (defScope s_BadText) [("__class__", cc)] .none .none doc pm none (.ref cda) ct), osl⟩)
    (hcd : PySem.W.codeIn K (.ref cda) "BadText.__init__" = true) (hcode : K.lookup cda = some ⟨ccl, cdd, .fields vs0, ccs⟩) (hvs : vs0[2]? = some (.str file tf)) (hfile : ((P.main.file : Str) == file) = true)
    (hcell : K.lookup cc = some ⟨cl, cld, .cell (some (.ref C)), csl⟩) (hD : PySem.W.clsIn K C = some cdD) (hsuper : mg "super" = none) (hop : PySem.W.nsIn K PySem.cStatics "thirdparty.any" = some none) (htop : (P.main.scope.names.lookup ("super" : Str)).isSome = false) :
    FnOk P w K mg base CX0 1 f (PySem.W.fnX "__init__" "BadText.__init__" (defArgs s_BadText) (defBody s_BadText) (defScope s_BadText) [("__class__", cc)] .none .none doc pm none (.ref cda) ct) ["self", "line", "column"] (spE C okx_BadText fs_BadText) := by
  refine fn_super lk hcd sc_BadText hcode hvs hfile hcell hD hsuper hop rfl rfl rfl htop rfl (fun vs H Q E h => len_spE (n := 2) (fun ws h => by obtain ⟨_, _, rfl, _⟩ := h; rfl) h) (fun A outer s H vs Q E hr h => ?_) (fun _ => rfl) (fun _ => rfl) (fun _ => rfl)
  obtain ⟨a, ws, rfl, ⟨l, c, rfl, l0, l1, c0, c1⟩, ea, q⟩ := h
  refine ⟨a, C, _, _, rfl, ea, X.oex, X.mro, X.sup, X.subV, pa_cons (pe_joined (.cons pe_str (.cons (pe_fmt (v_ 1)) (.cons pe_str (.cons (pe_fmt (v_ 2)) .nil))))) pa_nil, pss_cons (ps_ost (v_ 0) (v_ 1)) (pss_one (ps_ost (v_ 0) (v_ 2))), ?_⟩
  have tl := text_small l0 l1
  have tc := text_small c0 c1
  have z0 : Str.empty.length = 0 := rfl
  have z1 : (Str.ofString "line ").length = 5 := rfl
  have z2 : (Str.ofString ", column ").length = 9 := rfl
  refine ⟨_, rfl, line_of (by rw [len_add]; omega), .inr ⟨_, rfl, log_small l0 l1, _, rfl, line_of (by rw [len_add, len_add]; omega), ?_⟩⟩
  refine ⟨_, rfl, line_of (by rw [len_add, len_add, len_add]; omega), .inr ⟨_, rfl, log_small c0 c1, _, rfl, line_of (by rw [len_add, len_add, len_add, len_add]; omega), ?_⟩⟩
  refine ⟨ea, (by show 1 ≤ 1000; decide), ?_⟩
  refine ⟨a, C, rfl, X.oex, X.no _ (by simp), .inl ⟨ea, ost1 ea fun dx H' n ne e1 e2 hh => ?_⟩⟩
  refine ⟨a, C, rfl, X.oex, X.no _ (by simp), .inr ⟨dx, _, e1, e2, (by show 1 ≤ 900; decide), ?_⟩⟩
  exact q dx _ n ne (by rw [upd_ne ne.symm]; exact e1) upd_same fun b h1 h2 => by rw [upd_ne h2]; exact hh b h1 h2

theorem ok_split_line {f : Addr} {fd : FuncData} {f_token_end : Addr} {fd_token_end : FuncData} {f_BadText : Addr} {fd_BadText : FuncData} (F : Fun K "split_line" "split_line" s_split_line f fd) (T : Gs K mg t_BOUND t_DIGITS t_LETTERS t_LONGEST_INTEGER t_LONGEST_NAME t_MOST_NESTED a_ALWAYS a_MARKS a_NEVER a_OPPOSITES a_RESERVED a_SIGNS a_BadName a_BadNumber a_BadSign a_BadText a_Condition a_ElseputError a_Reader a_TooLarge) (c_token_end : Cal P w K mg base CX0 2 "token_end" f_token_end fd_token_end ["line", "at"] (sp_token_end K)) (c_BadText : CalE P w K mg base 1 "BadText" a_BadText f_BadText fd_BadText ["self", "line", "column"] okx_BadText fs_BadText ["line", "column"]) : FnOk P w K mg base (L2.CX P w) 3 f fd ["line", "number"] (sp_split_line K) := by
  refine F.okX sc_split_line (fun vs H Q E h => len_split_line h) (fun cdv A outer s H vs Q E hr h => ?_)
  obtain ⟨z, num, rfl, hz, n0, n1, q⟩ := h
  refine ⟨_, (pss_cons (ps_set (i := 2) sc_split_line.nd rfl (.inl rfl) (pe_lst pa_nil)) (pss_cons (ps_set (i := 3) sc_split_line.nd rfl (.inl rfl) pe_int) (pss_cons (ps_while (passes_of rfl) (pt_c op_ltM (v_ 3) (pe_callB (lenK K) (by rfl) T.z_len PySem.boot_len (pa_cons (v_ 0) pa_nil))) (pss_cons (ps_set (i := 4) sc_split_line.nd rfl (.inl rfl) (pe_call c_token_end.G (hr.mono (by first | decide | omega)) rfl c_token_end.m c_token_end.kp c_token_end.b .nil pass0 (pa_cons (v_ 0) (pa_cons (v_ 3) pa_nil)))) (pss_one (ps_if (pt_c op_gtM (v_ 4) (v_ 3)) (pss_cons (ps_expr (pe_bm PySem.F.plainAttrs_list PySem.F.slot_list_append PySem.F.type_list_append mt_append (v_ 2) (pa_cons (pe_tup (pa_cons (pe_slice (slK K) (v_ 0) (po_some (v_ 3)) (po_some (v_ 4))) (pa_cons (pe_op (addK K) (v_ 3) pe_int) pa_nil))) pa_nil))) (pss_one (ps_set (i := 3) sc_split_line.nd rfl (.inl rfl) (v_ 4)))) (pss_one (ps_if (pt_c (eqK K hr.units) (e_x K (v_ 0) (v_ 3)) pe_str) (pss_one (ps_aug (i := 3) sc_split_line.nd rfl (.inl rfl) pe_int ip_add)) (pss_one (ps_raise rfl (takes_of rfl rfl rfl rfl) (pmk_oex c_BadText.X.oex c_BadText.X.iC c_BadText.X.tI c_BadText.G (hr.mono (by first | decide | omega)) c_BadText.b .nil pass0 rfl c_BadText.m (pa_cons (v_ 1) (pa_cons (pe_op (addK K) (v_ 3) pe_int) pa_nil))))))))))) (pss_one (ps_ret (v_ 2)))))), ?_⟩
  have hl : z.length ≤ sizeLine := line_of (by omega)
  have bf : ∀ {c : Bool}, ¬ c = true → c = false := fun h => Bool.eq_false_iff.mpr h
  refine ⟨Nat.zero_le _, fun p np => ?_⟩
  refine ⟨fun m σ' H' => ∃ (e : Nat) (y : Option V) (ts : List Addr) (l0 : List (List Nat × Nat)), m = z.length - e ∧ e ≤ z.length ∧ σ' = [some (.str z), some (.int num), some (.ref p), some (.int e), y] ∧ Same H H' ∧ H' p = some (.lst (ts.map V.ref)) ∧ PairL H' ts l0 ∧ l0.length ≤ e ∧
    splitL z.cps.toList 1 = (match splitL (z.cps.toList.drop e) (1 + e) with | .ok l => .ok (l0 ++ l) | .error c => .error c), ⟨_, 0, _, [], [], rfl, Nat.zero_le _, rfl, same_new np, upd_same, trivial, Nat.le_refl _, ?_⟩, ?_⟩
  · rw [List.drop_zero]
    cases splitL z.cps.toList 1 <;> rfl
  rintro m σ' H' ⟨e, y, ts, l0, rfl, he, rfl, sm, hp, hts, hl0, hsp⟩
  refine ⟨hl, ?_⟩
  refine ite2 (fun e1 => ?_) (fun e1 => ?_)
  · have e1 : (e : Int) < z.length := of_decide_eq_true e1
    obtain ⟨c, hc, hd⟩ := drop_cons (z := z) (e := e) (by omega)
    have hk := tokLen_le (z.cps.toList.drop e)
    rw [List.length_drop, len_cps] at hk
    refine ⟨fun σ2 H2 => ∃ m', m' < z.length - e ∧ ∃ (e : Nat) (y : Option V) (ts : List Addr) (l0 : List (List Nat × Nat)), m' = z.length - e ∧ e ≤ z.length ∧ σ2 = [some (.str z), some (.int num), some (.ref p), some (.int e), y] ∧ Same H H2 ∧ H2 p = some (.lst (ts.map V.ref)) ∧ PairL H2 ts l0 ∧ l0.length ≤ e ∧
      splitL z.cps.toList 1 = (match splitL (z.cps.toList.drop e) (1 + e) with | .ok l => .ok (l0 ++ l) | .error c => .error c), fun _ _ h => h, ?_⟩
    refine ⟨z, e, rfl, by omega, hz, fun H2 s2 => ?_⟩
    have sm2 := sm.trans s2
    have hp2 := s2 _ _ hp
    have hts2 := hts.same fun b o _ h => s2 b o h
    generalize hkk : tokLen (z.cps.toList.drop e) = k at hk ⊢
    refine ite2 (fun e2 => ?_) (fun e2 => ?_)
    · have e2 : (e : Int) < ((e + k : Nat) : Int) := of_decide_eq_true e2
      have k0 : 0 < k := by omega
      refine ⟨.inl ⟨rfl, _, SqL.of hp2⟩, _, rfl, _, rfl, hl, (by show 2 ≤ sizeLine; decide), fun t nt => ⟨p, _, _, rfl, rfl, same_new nt _ _ hp2, line_lt (by rw [List.length_map, hts.len]; omega), ?_⟩⟩
      have pt : p ≠ t := ne_of_none hp2 nt
      have tH : H t = none := Same.free sm2 nt
      have ht : upd (upd H2 t (.tup [.str (cutS z (some (e : Int)) (some ((e + k : Nat) : Int))), .int ((e : Int) + 1)])) p (.lst (ts.map V.ref ++ [.ref t])) t = some (.tup [.str (cutS z (some (e : Int)) (some ((e + k : Nat) : Int))), .int (((1 + e : Nat) : Nat) : Int)]) := by
        rw [upd_ne pt.symm, upd_same, show (((1 + e : Nat) : Nat) : Int) = (e : Int) + 1 by omega]
      refine ⟨z.length - (e + k), by omega, e + k, _, ts ++ [t], l0 ++ [((z.cps.toList.drop e).take k, 1 + e)], rfl, by omega, rfl, ?_, ?_, ?_, ?_, ?_⟩
      · intro b o hb
        rw [upd_ne (ne_of_none hb np), upd_ne (ne_of_none hb tH)]
        exact sm2 b o hb
      · rw [upd_same, List.map_append]
        rfl
      · have h1 : PairL (upd (upd H2 t (.tup [.str (cutS z (some (e : Int)) (some ((e + k : Nat) : Int))), .int ((e : Int) + 1)])) p (.lst (ts.map V.ref ++ [.ref t]))) ts l0 := hts2.same fun b o ho hb => by
          obtain ⟨z', i', rfl⟩ := ho
          rw [upd_ne (ne_of hb hp2 (by intro e; cases e)), upd_ne (ne_of_none hb nt)]
          exact hb
        have h2 := h1.snoc ht
        rw [cutS_mid (by omega), show e + k - e = k by omega] at h2
        exact h2
      · rw [List.length_append, List.length_singleton]
        omega
      · rw [hsp, splitL_tok (by rw [hkk]; exact k0), hkk, List.drop_drop, show 1 + e + k = 1 + (e + k) by omega]
        cases splitL (z.cps.toList.drop (e + k)) (1 + (e + k)) with
        | ok l =>
          show Except.ok _ = Except.ok _
          rw [List.append_assoc]
          rfl
        | error c => rfl
    · have e2 : ¬ (e : Int) < ((e + k : Nat) : Int) := of_decide_eq_false (bf e2)
      have k0 : k = 0 := by omega
      subst k0
      have m32 : decide ((⟨#[c]⟩ : Str) = " ") = decide (c = 32) := by
        rw [Bool.eq_iff_iff, decide_eq_true_iff, decide_eq_true_iff, one_eq (d := 32) rfl]
      refine ⟨hl, c, atI_nat hc, ?_⟩
      refine ite2 (fun e3 => ?_) (fun e3 => ?_)
      · have e3 : c = 32 := of_decide_eq_true (m32.symm.trans e3)
        subst e3
        refine ⟨_, rfl, _, _, rfl, rfl, z.length - (e + 1), by omega, e + 1, _, ts, l0, rfl, by omega, rfl, sm2, hp2, hts2, by omega, ?_⟩
        rw [hsp, hd, splitL_space, Nat.add_assoc]
      · have e3 : ¬ c = 32 := of_decide_eq_false (m32.symm.trans (bf e3))
        refine mk_spE (by show 2 ≤ 1000; decide) ⟨num, (e : Int) + 1, rfl, n0, n1, by omega, by omega⟩ (fun d nd => ?_)
        have : splitL z.cps.toList 1 = .error (1 + e) := by
          rw [hsp, hd, splitL_bad (by rw [← hd]; exact hkk) e3]
        unfold Splits at q
        rw [this] at q
        refine q a_BadText d _ T.n_BadText (sm2.trans (same_new nd)) (Same.free sm2 nd) ?_
        rw [upd_same]
        rw [show (((1 + e : Nat) : Nat) : Int) = (e : Int) + 1 by omega]
        rfl
  · have e1 : ¬ (e : Int) < z.length := of_decide_eq_false (bf e1)
    have : z.cps.toList.drop e = [] := List.drop_of_length_le (by rw [len_cps]; omega)
    rw [this, splitL_nil] at hsp
    have hsp : splitL z.cps.toList 1 = .ok (l0 ++ []) := hsp
    unfold Splits at q
    rw [hsp, List.append_nil] at q
    exact q H' p ts sm np hp hts

end
section
variable {P : Program} {w : World} {K : PySem.W.Frag} {mg : Str → Option Value} {base : Heap}
variable {t_BOUND t_DIGITS t_LETTERS t_LONGEST_INTEGER t_LONGEST_NAME t_MOST_NESTED : Tok} {a_ALWAYS a_MARKS a_NEVER a_OPPOSITES a_RESERVED a_SIGNS a_BadName a_BadNumber a_BadSign a_BadText a_Condition a_ElseputError a_Reader a_TooLarge : Addr}
/-! ### is_integer -/
def IntB (z : Str) (b : Bool) : Prop := (z.length = 0 ∧ b = false) ∨ (0 < z.length ∧ isD (z.cps.toList.getLastD 0) = false ∧ b = false) ∨ (0 < z.length ∧ isD (z.cps.toList.getLastD 0) = true ∧ 32 < z.length ∧ b = false) ∨
  ∃ n : Int, 0 < z.length ∧ isD (z.cps.toList.getLastD 0) = true ∧ z.length ≤ 32 ∧ PySem.intText? z = some n ∧ n.natAbs.log2 < 1920 ∧ b = (decide (((toString n : String) : Str) = z) && inB n)
def sp_is_integer (K : PySem.W.Frag) : Sp := fun vs H Q _ => ∃ (z : Str) (b : Bool), vs = [.str z] ∧ z.length ≤ 1000 ∧ IntB z b ∧ ∀ H', Same H H' → Q (.bl b) H'
theorem len_is_integer {vs : List V} {H : Hp} {Q : VK} {E : XK} (h : sp_is_integer K vs H Q E) : vs.length = 1 := by
  obtain ⟨_, _, rfl, _⟩ := h
  rfl
theorem dig_in {c : Nat} : decide (c ∈ ("0123456789" : Str).cps.toList) = isD c := by
  rw [digits_cps]
  rfl
theorem ok_is_integer {f : Addr} {fd : FuncData} {f_in_bound : Addr} {fd_in_bound : FuncData} (F : Fun K "is_integer" "is_integer" s_is_integer f fd) (T : Gs K mg t_BOUND t_DIGITS t_LETTERS t_LONGEST_INTEGER t_LONGEST_NAME t_MOST_NESTED a_ALWAYS a_MARKS a_NEVER a_OPPOSITES a_RESERVED a_SIGNS a_BadName a_BadNumber a_BadSign a_BadText a_Condition a_ElseputError a_Reader a_TooLarge) (c_in_bound : Cal P w K mg base CX0 1 "in_bound" f_in_bound fd_in_bound ["value"] (sp_in_bound K)) : FnOk P w K mg base CX0 2 f fd ["token"] (sp_is_integer K) := by
  refine F.ok sc_is_integer (fun vs H Q E h => len_is_integer h) (fun cdv A outer s H vs Q E hr h => ?_)
  obtain ⟨z, b, rfl, hl, hz, q⟩ := h
  have q := q H (Same.refl H)
  refine ⟨_, (pss_cons (ps_if (PW.pt (pw_or (pt_c (eqK K hr.units) (v_ 0) pe_str) (pw_or (pt_c (notInK K) (e_x K (v_ 0) (pe_un un_negM pe_int)) (pe_glob (v := .str "0123456789") rfl T.g_DIGITS ⟨_, rfl⟩)) (pw_or1 (pt_c op_gtM (pe_callB (lenK K) (by rfl) T.z_len PySem.boot_len (pa_cons (v_ 0) pa_nil)) (pe_glob (v := .int 32) rfl T.g_LONGEST_INTEGER ⟨_, rfl⟩)))))) (pss_one (ps_ret pe_bl)) pss_nil) (pss_one (ps_ret (pe_andM (pe_c (eqK K hr.units) (pe_callTy call_str_int (by rfl) T.z_str (by decide +kernel) (pa_cons (pe_callTy call_int_str (by rfl) T.z_int (by decide +kernel) (pa_cons (v_ 0) pa_nil)) pa_nil)) (v_ 0)) (pe_one (pe_call c_in_bound.G (hr.mono (by first | decide | omega)) rfl c_in_bound.m c_in_bound.kp c_in_bound.b .nil pass0 (pa_cons (pe_callTy call_int_str (by rfl) T.z_int (by decide +kernel) (pa_cons (v_ 0) pa_nil)) pa_nil))))))), ?_⟩
  refine ite2 (fun e => ?_) (fun e => ?_)
  · have e : z = "" := of_decide_eq_true e
    have hb : b = false := by
      subst e
      rcases hz with h | h | h | ⟨n, h, _⟩
      · exact h.2
      · exact h.2.2
      · exact h.2.2.2
      · exact absurd h (by decide)
    rw [hb] at q
    exact q
  have e : ¬ z = "" := of_decide_eq_false (Bool.eq_false_iff.mpr e)
  have hpos : 0 < z.length := by
    rcases Nat.eq_zero_or_pos z.length with h | h
    · refine absurd (str_eq.mpr ?_) e
      have := len_cps z
      rw [h] at this
      rw [List.eq_nil_of_length_eq_zero this]
      rfl
    · exact h
  refine ⟨line_of (by omega), _, at_last hpos, _, rfl, ?_⟩
  refine ite2 (fun e => ?_) (fun e => ?_)
  · have e : (!isD (z.cps.toList.getLastD 0)) = true := by rw [← dig_in]; exact e
    have hb : b = false := by
      rw [Bool.not_eq_true'] at e
      rcases hz with h | h | h | ⟨n, _, h, _⟩
      · exact h.2
      · exact h.2.2
      · exact h.2.2.2
      · rw [e] at h; cases h
    rw [hb] at q
    exact q
  have e : isD (z.cps.toList.getLastD 0) = true := by
    have e : ¬ (!isD (z.cps.toList.getLastD 0)) = true := by rw [← dig_in]; exact e
    rw [Bool.not_eq_true, Bool.not_eq_false'] at e
    exact e
  refine ⟨line_of (by omega), ?_⟩
  refine ite2 (fun e2 => ?_) (fun e2 => ?_)
  · have e2 : (32 : Int) < z.length := of_decide_eq_true e2
    have hb : b = false := by
      rcases hz with h | h | h | ⟨n, _, _, h, _⟩
      · exact h.2
      · exact h.2.2
      · exact h.2.2.2
      · omega
    rw [hb] at q
    exact q
  have e2 : ¬ (32 : Int) < z.length := of_decide_eq_false (Bool.eq_false_iff.mpr e2)
  rcases hz with h | h | h | ⟨n, _, _, _, hn, hlog, rfl⟩
  · omega
  · rw [e] at h; cases h.2.1
  · omega
  refine ⟨z, n, rfl, hn, by omega, n, rfl, hlog, ?_⟩
  refine ite2 (fun e3 => ?_) (fun e3 => ?_)
  · refine ⟨z, n, rfl, hn, by omega, n, rfl, ?_⟩
    have e3 : decide (((toString n : String) : Str) = z) = true := e3
    rw [e3, Bool.true_and] at q
    exact q
  · have e3 : decide (((toString n : String) : Str) = z) = false := Bool.eq_false_iff.mpr e3
    rw [e3, Bool.false_and] at q
    exact q
end
section
variable {P : Program} {w : World} {K : PySem.W.Frag} {mg : Str → Option Value} {base : Heap}
variable {t_BOUND t_DIGITS t_LETTERS t_LONGEST_INTEGER t_LONGEST_NAME t_MOST_NESTED : Tok} {a_ALWAYS a_MARKS a_NEVER a_OPPOSITES a_RESERVED a_SIGNS a_BadName a_BadNumber a_BadSign a_BadText a_Condition a_ElseputError a_Reader a_TooLarge : Addr}
/-! ### the reader -/
abbrev Tks := List (List Nat × Nat)
def RdAt (K : PySem.W.Frag) (H : Hp) (a p : Addr) (num e : Int) (toks : Tks) (i : Nat) : Prop := ∃ (C dx : Addr) (ts : List Addr), PySem.W.nsIn K mainGlobals "Reader" = some (some (.ref C)) ∧ H a = some (.ins C dx [("_parts", .ref p), ("_number", .int num), ("_end", .int e), ("_at", .int i)]) ∧ H p = some (.lst (ts.map V.ref)) ∧ PairL H ts toks ∧ i ≤ toks.length
def tokAt (toks : Tks) (i : Nat) : List Nat := (toks[i]?.map (·.1)).getD []
def colAt (toks : Tks) (e : Int) (i : Nat) : Int := (toks[i]?.map (fun x => (x.2 : Int))).getD e
/-- sizes: texts of at most 1000 signs, columns of at most 100000 -/
def TkOk (toks : Tks) : Prop := ∀ x ∈ toks, x.1.length ≤ 1000 ∧ x.2 ≤ 100000
theorem PairL.get {H : Hp} : ∀ {ts : List Addr} {l : Tks}, PairL H ts l → ∀ {i : Nat} {x : List Nat × Nat}, l[i]? = some x → ∃ t, ts[i]? = some t ∧ H t = some (.tup [.str (mkS x.1), .int (x.2 : Int)])
  | t :: ts, x :: xs, ⟨⟨z, h1, h2⟩, h⟩, 0, y, e => by
    simp at e
    subst e
    exact ⟨t, rfl, by rw [h1, mkS_of h2]⟩
  | t :: ts, x :: xs, ⟨_, h⟩, i + 1, y, e => by simpa using h.get (i := i) (x := y) (by simpa using e)
  | [], _ :: _, h, _, _, _ => False.elim h
theorem tokAt_of {toks : Tks} {i : Nat} {x : List Nat × Nat} (h : toks[i]? = some x) : tokAt toks i = x.1 := by unfold tokAt; rw [h]; rfl
theorem tokAt_end {toks : Tks} {i : Nat} (h : toks.length ≤ i) : tokAt toks i = [] := by unfold tokAt; rw [List.getElem?_eq_none h]; rfl
theorem tokAt_lt {toks : Tks} {i : Nat} (h : tokAt toks i ≠ []) : i < toks.length := by
  rcases Nat.lt_or_ge i toks.length with h1 | h1
  · exact h1
  · exact absurd (tokAt_end h1) h
theorem tokAt_le {toks : Tks} {i : Nat} (h : TkOk toks) : (tokAt toks i).length ≤ 1000 := by
  unfold tokAt
  cases e : toks[i]? with
  | none => exact Nat.zero_le _
  | some x => exact (h x (List.mem_of_getElem? e)).1
def BadAt (K : PySem.W.Frag) (H : Hp) (num col : Int) (E : XK) : Prop := ∀ (C d : Addr) (H' : Hp), PySem.W.nsIn K mainGlobals "BadText" = some (some (.ref C)) → Same H H' → H d = none → H' d = some (.xd [("column", .int col), ("line", .int num)]) → E (.ref C) (some d) H'
theorem RdAt.bt {a p : Addr} {num e : Int} {toks : Tks} {i : Nat} {H H' : Hp} (h : RdAt K H a p num e toks i) (s : Same H H') : RdAt K H' a p num e toks i := by
  obtain ⟨C, dx, ts, h1, h2, h3, h4, h5⟩ := h
  exact ⟨C, dx, ts, h1, s _ _ h2, s _ _ h3, h4.same fun b o _ hb => s b o hb, h5⟩
/-- the reader one further -/
theorem RdAt.on {a p : Addr} {num e : Int} {toks : Tks} {i : Nat} {H : Hp} {C dx : Addr} {ts : List Addr} (hC : PySem.W.nsIn K mainGlobals "Reader" = some (some (.ref C))) (h2 : H a = some (.ins C dx [("_parts", .ref p), ("_number", .int num), ("_end", .int e), ("_at", .int i)])) (h3 : H p = some (.lst (ts.map V.ref))) (h4 : PairL H ts toks) (h5 : i < toks.length) :
    RdAt K (upd H a (.ins C dx [("_parts", .ref p), ("_number", .int num), ("_end", .int e), ("_at", .int ((i + 1 : Nat) : Int))])) a p num e toks (i + 1) := by
  refine ⟨C, dx, ts, hC, upd_same, ?_, h4.same fun b o ho hb => ?_, h5⟩
  · rw [upd_ne (ne_of h3 h2 (by intro e; cases e))]
    exact h3
  · obtain ⟨z, n, rfl⟩ := ho
    rw [upd_ne (ne_of hb h2 (by intro e; cases e))]
    exact hb
def Rd0 (K : PySem.W.Frag) (H : Hp) (a p : Addr) (num e : Int) (toks : Tks) (i : Nat) : Prop := RdAt K H a p num e toks i ∧ TkOk toks ∧ 0 ≤ num ∧ num ≤ 100000 ∧ 0 ≤ e ∧ e ≤ 100000
def sp_Reader_at_end (K : PySem.W.Frag) : Sp := fun vs H Q _ => ∃ (a p : Addr) (num e : Int) (toks : Tks) (i : Nat), vs = [.ref a] ∧ RdAt K H a p num e toks i ∧ Q (.bl (decide (i = toks.length))) H
theorem len_Reader_at_end {vs : List V} {H : Hp} {Q : VK} {E : XK} (h : sp_Reader_at_end K vs H Q E) : vs.length = 1 := by
  obtain ⟨_, _, _, _, _, _, rfl, _⟩ := h
  rfl
theorem ok_Reader_at_end {f : Addr} {fd : FuncData} (F : Fun K "at_end" "Reader.at_end" s_Reader_at_end f fd) (T : Gs K mg t_BOUND t_DIGITS t_LETTERS t_LONGEST_INTEGER t_LONGEST_NAME t_MOST_NESTED a_ALWAYS a_MARKS a_NEVER a_OPPOSITES a_RESERVED a_SIGNS a_BadName a_BadNumber a_BadSign a_BadText a_Condition a_ElseputError a_Reader a_TooLarge) : FnOk P w K mg base CX0 1 f fd ["self"] (sp_Reader_at_end K) := by
  refine F.ok sc_Reader_at_end (fun vs H Q E h => len_Reader_at_end h) (fun cdv A outer s H vs Q E hr h => ?_)
  obtain ⟨a, p, num, e, toks, i, rfl, ⟨C, dx, ts, hC, ha, hp, hts, hi⟩, q⟩ := h
  cases hC.symm.trans T.n_Reader
  refine ⟨_, (pss_one (ps_ret (pe_c (eqK K hr.units) (e_f K (v_ 0)) (pe_callB (lenK K) (by rfl) T.z_len PySem.boot_len (pa_cons (e_f K (v_ 0)) pa_nil))))), ?_⟩
  refine ⟨a, a_Reader, dx, _, _, rfl, ha, T.cl_Reader, T.na_Reader__at, rfl, ?_⟩
  refine ⟨a, a_Reader, dx, _, _, rfl, ha, T.cl_Reader, T.na_Reader__parts, rfl, ?_⟩
  refine .inl ⟨_, .inl (SqL.of hp), ?_⟩
  rw [List.length_map, hts.len]
  have e : decide ((i : Int) = (toks.length : Int)) = decide (i = toks.length) := by
    rw [Bool.eq_iff_iff, decide_eq_true_iff, decide_eq_true_iff]
    omega
  rw [← e] at q
  exact q
def sp_Reader_ahead (K : PySem.W.Frag) : Sp := fun vs H Q _ => ∃ (a p : Addr) (num e : Int) (toks : Tks) (i : Nat), vs = [.ref a] ∧ RdAt K H a p num e toks i ∧ Q (.str (mkS (tokAt toks i))) H
theorem len_Reader_ahead {vs : List V} {H : Hp} {Q : VK} {E : XK} (h : sp_Reader_ahead K vs H Q E) : vs.length = 1 := by
  obtain ⟨_, _, _, _, _, _, rfl, _⟩ := h
  rfl
theorem ok_Reader_ahead {f : Addr} {fd : FuncData} {f_Reader_at_end : Addr} {fd_Reader_at_end : FuncData} (F : Fun K "ahead" "Reader.ahead" s_Reader_ahead f fd) (T : Gs K mg t_BOUND t_DIGITS t_LETTERS t_LONGEST_INTEGER t_LONGEST_NAME t_MOST_NESTED a_ALWAYS a_MARKS a_NEVER a_OPPOSITES a_RESERVED a_SIGNS a_BadName a_BadNumber a_BadSign a_BadText a_Condition a_ElseputError a_Reader a_TooLarge) (c_Reader_at_end : CalM P w K mg base CX0 1 a_Reader "at_end" f_Reader_at_end fd_Reader_at_end ["self"] (sp_Reader_at_end K)) : FnOk P w K mg base CX0 2 f fd ["self"] (sp_Reader_ahead K) := by
  refine F.ok sc_Reader_ahead (fun vs H Q E h => len_Reader_ahead h) (fun cdv A outer s H vs Q E hr h => ?_)
  obtain ⟨a, p, num, e, toks, i, rfl, hR, q⟩ := h
  obtain ⟨C, dx, ts, hC, ha, hp, hts, hi⟩ := id hR
  cases hC.symm.trans T.n_Reader
  refine ⟨_, (pss_one (ps_ret (pe_ifExp (pt_t K (pe_meth0 (v_ 0) c_Reader_at_end.cl c_Reader_at_end.me c_Reader_at_end.G (hr.mono (by first | decide | omega)) c_Reader_at_end.b .nil pass0)) pe_str (e_x K (e_x K (e_f K (v_ 0)) (e_f K (v_ 0))) pe_int)))), ?_⟩
  refine ⟨a, dx, _, rfl, ha, rfl, a, p, num, e, toks, i, rfl, hR, ?_⟩
  refine ite2 (fun e1 => ?_) (fun e1 => ?_)
  · have e1 : i = toks.length := of_decide_eq_true e1
    rw [tokAt_end (by omega)] at q
    exact q
  · have e1 : ¬ i = toks.length := of_decide_eq_false (Bool.eq_false_iff.mpr e1)
    obtain ⟨x, hx⟩ : ∃ x, toks[i]? = some x := ⟨_, List.getElem?_eq_getElem (by omega)⟩
    obtain ⟨t, ht1, ht2⟩ := hts.get hx
    rw [tokAt_of hx] at q
    refine ⟨a, a_Reader, dx, _, _, rfl, ha, T.cl_Reader, T.na_Reader__parts, rfl, ?_⟩
    refine ⟨a, a_Reader, dx, _, _, rfl, ha, T.cl_Reader, T.na_Reader__at, rfl, ?_⟩
    refine ⟨_, .inl (SqL.of hp), .ref t, atI_nat (by rw [List.getElem?_map, ht1]; rfl), ?_⟩
    exact ⟨_, .inr (SqT.of ht2), .str (mkS x.1), rfl, q⟩
def sp_Reader__refuse (K : PySem.W.Frag) : Sp := fun vs H Q E => ∃ (a p : Addr) (num e : Int) (toks : Tks) (i : Nat), vs = [.ref a] ∧ Rd0 K H a p num e toks i ∧ BadAt K H num (colAt toks e i) E
theorem len_Reader__refuse {vs : List V} {H : Hp} {Q : VK} {E : XK} (h : sp_Reader__refuse K vs H Q E) : vs.length = 1 := by
  obtain ⟨_, _, _, _, _, _, rfl, _⟩ := h
  rfl
theorem ok_Reader__refuse {f : Addr} {fd : FuncData} {f_Reader_at_end : Addr} {fd_Reader_at_end : FuncData} {f_BadText : Addr} {fd_BadText : FuncData} (F : Fun K "_refuse" "Reader._refuse" s_Reader__refuse f fd) (T : Gs K mg t_BOUND t_DIGITS t_LETTERS t_LONGEST_INTEGER t_LONGEST_NAME t_MOST_NESTED a_ALWAYS a_MARKS a_NEVER a_OPPOSITES a_RESERVED a_SIGNS a_BadName a_BadNumber a_BadSign a_BadText a_Condition a_ElseputError a_Reader a_TooLarge) (c_Reader_at_end : CalM P w K mg base CX0 1 a_Reader "at_end" f_Reader_at_end fd_Reader_at_end ["self"] (sp_Reader_at_end K)) (c_BadText : CalE P w K mg base 1 "BadText" a_BadText f_BadText fd_BadText ["self", "line", "column"] okx_BadText fs_BadText ["line", "column"]) : FnOk P w K mg base (L2.CX P w) 3 f fd ["self"] (sp_Reader__refuse K) := by
  refine F.okX sc_Reader__refuse (fun vs H Q E h => len_Reader__refuse h) (fun cdv A outer s H vs Q E hr h => ?_)
  obtain ⟨a, p, num, e, toks, i, rfl, ⟨hR, hT, n0, n1, e0, e1⟩, q⟩ := h
  obtain ⟨C, dx, ts, hC, ha, hp, hts, hi⟩ := id hR
  cases hC.symm.trans T.n_Reader
  refine ⟨_, (pss_cons (ps_set (i := 1) sc_Reader__refuse.nd rfl (.inl rfl) (pe_ifExp (pt_t K (pe_meth0 (v_ 0) c_Reader_at_end.cl c_Reader_at_end.me c_Reader_at_end.G (hr.mono (by first | decide | omega)) c_Reader_at_end.b .nil pass0)) (e_f K (v_ 0)) (e_x K (e_x K (e_f K (v_ 0)) (e_f K (v_ 0))) pe_int))) (pss_one (ps_raise rfl (takes_of rfl rfl rfl rfl) (pmk_oex c_BadText.X.oex c_BadText.X.iC c_BadText.X.tI c_BadText.G (hr.mono (by first | decide | omega)) c_BadText.b .nil pass0 rfl c_BadText.m (pa_cons (e_f K (v_ 0)) (pa_cons (v_ 1) pa_nil)))))), ?_⟩
  refine ⟨a, dx, _, rfl, ha, rfl, a, p, num, e, toks, i, rfl, hR, ?_⟩
  refine ite2 (fun e2 => ?_) (fun e2 => ?_)
  · have e2 : i = toks.length := of_decide_eq_true e2
    refine ⟨a, a_Reader, dx, _, _, rfl, ha, T.cl_Reader, T.na_Reader__end, rfl, ?_⟩
    refine ⟨a, a_Reader, dx, _, _, rfl, ha, T.cl_Reader, T.na_Reader__number, rfl, ?_⟩
    refine mk_spE (by show 2 ≤ 1000; decide) ⟨num, e, rfl, n0, n1, e0, e1⟩ (fun d nd => ?_)
    have hc : colAt toks e i = e := by unfold colAt; rw [List.getElem?_eq_none (by omega)]; rfl
    rw [hc] at q
    exact q a_BadText d _ T.n_BadText (same_new nd) nd upd_same
  · have e2 : ¬ i = toks.length := of_decide_eq_false (Bool.eq_false_iff.mpr e2)
    obtain ⟨x, hx⟩ : ∃ x, toks[i]? = some x := ⟨_, List.getElem?_eq_getElem (by omega)⟩
    obtain ⟨t, ht1, ht2⟩ := hts.get hx
    have hxb := (hT x (List.mem_of_getElem? hx)).2
    refine ⟨a, a_Reader, dx, _, _, rfl, ha, T.cl_Reader, T.na_Reader__parts, rfl, ?_⟩
    refine ⟨a, a_Reader, dx, _, _, rfl, ha, T.cl_Reader, T.na_Reader__at, rfl, ?_⟩
    refine ⟨_, .inl (SqL.of hp), .ref t, atI_nat (by rw [List.getElem?_map, ht1]; rfl), ?_⟩
    refine ⟨_, .inr (SqT.of ht2), .int (x.2 : Int), rfl, ?_⟩
    refine ⟨a, a_Reader, dx, _, _, rfl, ha, T.cl_Reader, T.na_Reader__number, rfl, ?_⟩
    refine mk_spE (by show 2 ≤ 1000; decide) ⟨num, (x.2 : Int), rfl, n0, n1, by omega, by omega⟩ (fun d nd => ?_)
    have hc : colAt toks e i = (x.2 : Int) := by unfold colAt; rw [hx]; rfl
    rw [hc] at q
    exact q a_BadText d _ T.n_BadText (same_new nd) nd upd_same
def Took (K : PySem.W.Frag) (H : Hp) (a p : Addr) (num e : Int) (toks : Tks) (i : Nat) (v : V) (Q : VK) : Prop := i < toks.length ∧ ∀ H', Bt a H H' → RdAt K H' a p num e toks (i + 1) → Q v H'
def sp_Reader__take_if (K : PySem.W.Frag) : Sp := fun vs H Q E => ∃ (a p : Addr) (num e : Int) (toks : Tks) (i : Nat) (b : Bool), vs = [.ref a, .bl b] ∧ Rd0 K H a p num e toks i ∧ (if b = true then Took K H a p num e toks i (.str (mkS (tokAt toks i))) Q else BadAt K H num (colAt toks e i) E)
theorem len_Reader__take_if {vs : List V} {H : Hp} {Q : VK} {E : XK} (h : sp_Reader__take_if K vs H Q E) : vs.length = 2 := by
  obtain ⟨_, _, _, _, _, _, _, rfl, _⟩ := h
  rfl
theorem ok_Reader__take_if {f : Addr} {fd : FuncData} {f_Reader_ahead : Addr} {fd_Reader_ahead : FuncData} {f_Reader__refuse : Addr} {fd_Reader__refuse : FuncData} (F : Fun K "_take_if" "Reader._take_if" s_Reader__take_if f fd) (T : Gs K mg t_BOUND t_DIGITS t_LETTERS t_LONGEST_INTEGER t_LONGEST_NAME t_MOST_NESTED a_ALWAYS a_MARKS a_NEVER a_OPPOSITES a_RESERVED a_SIGNS a_BadName a_BadNumber a_BadSign a_BadText a_Condition a_ElseputError a_Reader a_TooLarge) (c_Reader_ahead : CalM P w K mg base CX0 2 a_Reader "ahead" f_Reader_ahead fd_Reader_ahead ["self"] (sp_Reader_ahead K)) (c_Reader__refuse : CalM P w K mg base (L2.CX P w) 3 a_Reader "_refuse" f_Reader__refuse fd_Reader__refuse ["self"] (sp_Reader__refuse K)) : FnOk P w K mg base (L2.CX P w) 4 f fd ["self", "fits"] (sp_Reader__take_if K) := by
  refine F.okX sc_Reader__take_if (fun vs H Q E h => len_Reader__take_if h) (fun cdv A outer s H vs Q E hr h => ?_)
  obtain ⟨a, p, num, e, toks, i, b, rfl, hR0, q⟩ := h
  obtain ⟨hR, hT, n0, n1, e0, e1⟩ := id hR0
  obtain ⟨C, dx, ts, hC, ha, hp, hts, hi⟩ := id hR
  cases hC.symm.trans T.n_Reader
  refine ⟨_, (Evl.pss_cut (ps_if (pt_not (pt_t K (v_ 1))) (pss_one (ps_expr (pe_meth0 (v_ 0) c_Reader__refuse.cl c_Reader__refuse.me c_Reader__refuse.G (hr.mono (by first | decide | omega)) c_Reader__refuse.b .nil (passes_call (takes_of rfl rfl rfl rfl) (fun _ _ _ _ h => h))))) pss_nil) (pss_cons (ps_set (i := 2) sc_Reader__take_if.nd rfl (.inl rfl) (pe_meth0 (v_ 0) c_Reader_ahead.cl c_Reader_ahead.me c_Reader_ahead.G (hr.mono (by first | decide | omega)) c_Reader_ahead.b .nil pass0)) (pss_cons (ps_fldaug (v_ 0) pe_int in_add) (pss_one (ps_ret (v_ 2)))))), ?_⟩
  refine ⟨fun σ' H' => b = true ∧ σ' = [some (.ref a), some (.bl b), none] ∧ H' = H, ?_, ?_⟩
  · cases b with
    | true => exact ⟨rfl, rfl, rfl⟩
    | false =>
      rw [if_neg (by decide)] at q
      exact ⟨a, dx, _, rfl, ha, rfl, a, p, num, e, toks, i, rfl, hR0, q⟩
  rintro σ' H' ⟨rfl, rfl, rfl⟩
  rw [if_pos rfl] at q
  obtain ⟨hlt, q⟩ := q
  refine ⟨a, dx, _, rfl, ha, rfl, a, p, num, e, toks, i, rfl, hR, ?_⟩
  refine ⟨a, a_Reader, dx, _, _, rfl, ha, T.cl_Reader, T.na_Reader__at, rfl, ?_⟩
  refine ⟨_, _, rfl, rfl, dx, _, ha, (by show 4 < 1000; decide), ?_⟩
  exact q _ (fun b o nb hb => by rw [upd_ne nb]; exact hb) (RdAt.on T.n_Reader ha hp hts hlt)
def sp_Reader_skip (K : PySem.W.Frag) : Sp := fun vs H Q _ => ∃ (a p : Addr) (num e : Int) (toks : Tks) (i : Nat) (z : Str), vs = [.ref a, .str z] ∧ RdAt K H a p num e toks i ∧ z.cps.toList ≠ [] ∧ (if tokAt toks i = z.cps.toList then Took K H a p num e toks i (.bl true) Q else Q (.bl false) H)
theorem len_Reader_skip {vs : List V} {H : Hp} {Q : VK} {E : XK} (h : sp_Reader_skip K vs H Q E) : vs.length = 2 := by
  obtain ⟨_, _, _, _, _, _, _, rfl, _⟩ := h
  rfl
theorem ok_Reader_skip {f : Addr} {fd : FuncData} {f_Reader_ahead : Addr} {fd_Reader_ahead : FuncData} (F : Fun K "skip" "Reader.skip" s_Reader_skip f fd) (T : Gs K mg t_BOUND t_DIGITS t_LETTERS t_LONGEST_INTEGER t_LONGEST_NAME t_MOST_NESTED a_ALWAYS a_MARKS a_NEVER a_OPPOSITES a_RESERVED a_SIGNS a_BadName a_BadNumber a_BadSign a_BadText a_Condition a_ElseputError a_Reader a_TooLarge) (c_Reader_ahead : CalM P w K mg base CX0 2 a_Reader "ahead" f_Reader_ahead fd_Reader_ahead ["self"] (sp_Reader_ahead K)) : FnOk P w K mg base CX0 3 f fd ["self", "token"] (sp_Reader_skip K) := by
  refine F.ok sc_Reader_skip (fun vs H Q E h => len_Reader_skip h) (fun cdv A outer s H vs Q E hr h => ?_)
  obtain ⟨a, p, num, e, toks, i, z, rfl, hR, hz, q⟩ := h
  obtain ⟨C, dx, ts, hC, ha, hp, hts, hi⟩ := id hR
  cases hC.symm.trans T.n_Reader
  refine ⟨_, (pss_cons (ps_if (pt_c (neK K hr.units) (pe_meth0 (v_ 0) c_Reader_ahead.cl c_Reader_ahead.me c_Reader_ahead.G (hr.mono (by first | decide | omega)) c_Reader_ahead.b .nil pass0) (v_ 1)) (pss_one (ps_ret pe_bl)) pss_nil) (pss_cons (ps_fldaug (v_ 0) pe_int in_add) (pss_one (ps_ret pe_bl)))), ?_⟩
  refine ⟨a, dx, _, rfl, ha, rfl, a, p, num, e, toks, i, rfl, hR, ?_⟩
  have hq : (mkS (tokAt toks i) = z) ↔ tokAt toks i = z.cps.toList := by rw [str_eq, mkS_cps]
  refine ite2 (fun e1 => ?_) (fun e1 => ?_)
  · have e1 : ¬ mkS (tokAt toks i) = z := by
      have e1 : (!decide (mkS (tokAt toks i) = z)) = true := e1
      rw [Bool.not_eq_true', decide_eq_false_iff_not] at e1
      exact e1
    rw [if_neg (fun h => e1 (hq.mpr h))] at q
    exact q
  · have e1 : mkS (tokAt toks i) = z := by
      have e1 : ¬ (!decide (mkS (tokAt toks i) = z)) = true := e1
      rw [Bool.not_eq_true, Bool.not_eq_false', decide_eq_true_iff] at e1
      exact e1
    rw [if_pos (hq.mp e1)] at q
    obtain ⟨hlt, q⟩ := q
    refine ⟨a, a_Reader, dx, _, _, rfl, ha, T.cl_Reader, T.na_Reader__at, rfl, ?_⟩
    refine ⟨_, _, rfl, rfl, dx, _, ha, (by show 4 < 1000; decide), ?_⟩
    exact q _ (fun b o nb hb => by rw [upd_ne nb]; exact hb) (RdAt.on T.n_Reader ha hp hts hlt)
def sp_Reader_take_end (K : PySem.W.Frag) : Sp := fun vs H Q E => ∃ (a p : Addr) (num e : Int) (toks : Tks) (i : Nat), vs = [.ref a] ∧ Rd0 K H a p num e toks i ∧ (if i = toks.length then Q .non H else BadAt K H num (colAt toks e i) E)
theorem len_Reader_take_end {vs : List V} {H : Hp} {Q : VK} {E : XK} (h : sp_Reader_take_end K vs H Q E) : vs.length = 1 := by
  obtain ⟨_, _, _, _, _, _, rfl, _⟩ := h
  rfl
theorem ok_Reader_take_end {f : Addr} {fd : FuncData} {f_Reader_at_end : Addr} {fd_Reader_at_end : FuncData} {f_Reader__refuse : Addr} {fd_Reader__refuse : FuncData} (F : Fun K "take_end" "Reader.take_end" s_Reader_take_end f fd) (T : Gs K mg t_BOUND t_DIGITS t_LETTERS t_LONGEST_INTEGER t_LONGEST_NAME t_MOST_NESTED a_ALWAYS a_MARKS a_NEVER a_OPPOSITES a_RESERVED a_SIGNS a_BadName a_BadNumber a_BadSign a_BadText a_Condition a_ElseputError a_Reader a_TooLarge) (c_Reader_at_end : CalM P w K mg base CX0 1 a_Reader "at_end" f_Reader_at_end fd_Reader_at_end ["self"] (sp_Reader_at_end K)) (c_Reader__refuse : CalM P w K mg base (L2.CX P w) 3 a_Reader "_refuse" f_Reader__refuse fd_Reader__refuse ["self"] (sp_Reader__refuse K)) : FnOk P w K mg base (L2.CX P w) 4 f fd ["self"] (sp_Reader_take_end K) := by
  refine F.okX sc_Reader_take_end (fun vs H Q E h => len_Reader_take_end h) (fun cdv A outer s H vs Q E hr h => ?_)
  obtain ⟨a, p, num, e, toks, i, rfl, hR0, q⟩ := h
  obtain ⟨hR, hT, n0, n1, e0, e1⟩ := id hR0
  obtain ⟨C, dx, ts, hC, ha, hp, hts, hi⟩ := id hR
  cases hC.symm.trans T.n_Reader
  refine ⟨_, (pss_one (ps_if (pt_not (pt_t K (pe_meth0 (v_ 0) c_Reader_at_end.cl c_Reader_at_end.me c_Reader_at_end.G (hr.mono (by first | decide | omega)) c_Reader_at_end.b .nil pass0))) (pss_one (ps_expr (pe_meth0 (v_ 0) c_Reader__refuse.cl c_Reader__refuse.me c_Reader__refuse.G (hr.mono (by first | decide | omega)) c_Reader__refuse.b .nil (passes_call (takes_of rfl rfl rfl rfl) (fun _ _ _ _ h => h))))) pss_nil)), ?_⟩
  refine ⟨a, dx, _, rfl, ha, rfl, a, p, num, e, toks, i, rfl, hR, ?_⟩
  refine ite2 (fun e1 => ?_) (fun e1 => ?_)
  · have e1 : ¬ i = toks.length := by
      have e1 : (!decide (i = toks.length)) = true := e1
      rw [Bool.not_eq_true', decide_eq_false_iff_not] at e1
      exact e1
    rw [if_neg e1] at q
    exact ⟨a, dx, _, rfl, ha, rfl, a, p, num, e, toks, i, rfl, hR0, q⟩
  · have e1 : i = toks.length := by
      have e1 : ¬ (!decide (i = toks.length)) = true := e1
      rw [Bool.not_eq_true, Bool.not_eq_false', decide_eq_true_iff] at e1
      exact e1
    rw [if_pos e1] at q
    exact q
end
section
variable {P : Program} {w : World} {K : PySem.W.Frag} {mg : Str → Option Value} {base : Heap}
variable {t_BOUND t_DIGITS t_LETTERS t_LONGEST_INTEGER t_LONGEST_NAME t_MOST_NESTED : Tok} {a_ALWAYS a_MARKS a_NEVER a_OPPOSITES a_RESERVED a_SIGNS a_BadName a_BadNumber a_BadSign a_BadText a_Condition a_ElseputError a_Reader a_TooLarge : Addr}
/-! ### integers as tokens -/
theorem digitsVal_lt : ∀ (cs : List Nat) (acc : Nat), (∀ c ∈ cs, 48 ≤ c ∧ c ≤ 57) → cs.foldl (fun acc c => acc * 10 + (c - 48)) acc < (acc + 1) * 10 ^ cs.length
  | [], acc, _ => by simp
  | c :: r, acc, h => by
    have hc := h c List.mem_cons_self
    have ih := digitsVal_lt r (acc * 10 + (c - 48)) fun d hd => h d (List.mem_cons_of_mem _ hd)
    rw [List.foldl_cons, List.length_cons, Nat.pow_succ]
    refine Nat.lt_of_lt_of_le ih ?_
    rw [Nat.mul_comm (10 ^ r.length) 10, ← Nat.mul_assoc]
    exact Nat.mul_le_mul_right _ (by omega)
theorem digits_small {cs : List Nat} (h : ∀ c ∈ cs, 48 ≤ c ∧ c ≤ 57) (hl : cs.length ≤ 32) : ((PySem.NumText.digitsVal cs : Nat) : Int).natAbs.log2 < 1920 := by
  have h1 := digitsVal_lt cs 0 h
  have h2 : PySem.NumText.digitsVal cs < 10 ^ 32 := by
    refine Nat.lt_of_lt_of_le (show PySem.NumText.digitsVal cs < (0 + 1) * 10 ^ cs.length from h1) ?_
    rw [Nat.zero_add, Nat.one_mul]
    exact Nat.pow_le_pow_right (by decide) hl
  rw [Int.natAbs_natCast]
  by_cases hz : PySem.NumText.digitsVal cs = 0
  · rw [hz]
    decide
  · exact (Nat.log2_lt hz).mpr (Nat.lt_of_lt_of_le h2 (Nat.le_trans (by decide : 10 ^ 32 ≤ 2 ^ 110) (Nat.pow_le_pow_right (by decide) (by decide))))
open Classical in
noncomputable def rdI (p : List Nat) : Option Int := if h : ∃ n : Int, ((toString n : String) : Str) = mkS p ∧ inB n = true then some h.choose else none
theorem num_short {n : Int} (h : inB n = true) : ((toString n : String) : Str).length ≤ 32 := by
  unfold inB at h
  rw [Bool.and_eq_true, decide_eq_true_iff, decide_eq_true_iff] at h
  rw [PySem.ofString_length]
  refine Nat.le_trans (int_text_length_le10 (a := n) (k := 31) (by decide) ?_) (by decide)
  have e : (10 : Nat) ^ 31 = 10000000000000000000000000000000 := by decide +kernel
  rw [e]
  omega
theorem rdI_num {n : Int} (h : inB n = true) : rdI ((toString n : String) : Str).cps.toList = some n := by
  unfold rdI
  have ex : ∃ m : Int, ((toString m : String) : Str) = mkS ((toString n : String) : Str).cps.toList ∧ inB m = true := ⟨n, (mkS_self _).symm, h⟩
  rw [dif_pos ex]
  congr 1
  have hs := ex.choose_spec
  generalize ex.choose = m at hs
  obtain ⟨h1, h2⟩ := hs
  rw [mkS_self] at h1
  have e1 := num_reads' (i := m) (Nat.le_trans (num_short h2) (by decide))
  have e2 := num_reads' (i := n) (Nat.le_trans (num_short h) (by decide))
  rw [h1, e2] at e1
  exact (Option.some.inj e1).symm
theorem rdI_spec {p : List Nat} {n : Int} (h : rdI p = some n) : mkS p = ((toString n : String) : Str) ∧ inB n = true := by
  unfold rdI at h
  split at h
  · rename_i ex
    have e := Option.some.inj h
    have hs := ex.choose_spec
    rw [e] at hs
    exact ⟨hs.1.symm, hs.2⟩
  · cases h
def TokE (p : List Nat) : Prop := p = [] ∨ Tok p
theorem intB_of {p : List Nat} (h : TokE p) : IntB (mkS p) (rdI p).isSome ∧ ∀ n, rdI p = some n → PySem.intText? (mkS p) = some n ∧ p.length ≤ 32 := by
  have sec : ∀ n, rdI p = some n → PySem.intText? (mkS p) = some n ∧ p.length ≤ 32 := fun n hn => by
    obtain ⟨e, hb⟩ := rdI_spec hn
    have hl := num_short hb
    rw [e]
    refine ⟨num_reads' (Nat.le_trans hl (by decide)), ?_⟩
    rw [← mkS_len p, e]
    exact hl
  refine ⟨?_, sec⟩
  have no : ∀ {P : Prop}, (∀ n, rdI p = some n → P) → ¬ P → (rdI p).isSome = false := fun h1 h2 => by
    cases e : rdI p with
    | none => rfl
    | some n => exact absurd (h1 n e) h2
  by_cases h0 : p = []
  · refine .inl ⟨by rw [mkS_len, h0]; rfl, ?_⟩
    refine no (P := False) (fun n hn => ?_) (fun h => h)
    obtain ⟨e, _⟩ := rdI_spec hn
    have := int_text_ne n
    rw [← e, mkS_cps] at this
    exact this h0
  have hpos : 0 < (mkS p).length := by rw [mkS_len]; exact List.length_pos_iff.mpr h0
  cases hd : isD (p.getLastD 0) with
  | false =>
    refine .inr (.inl ⟨hpos, by rw [mkS_cps]; exact hd, ?_⟩)
    refine no (P := False) (fun n hn => ?_) (fun h => h)
    obtain ⟨e, _⟩ := rdI_spec hn
    have := num_last n
    rw [← e, mkS_cps, hd] at this
    cases this
  | true =>
    by_cases hl : 32 < p.length
    · refine .inr (.inr (.inl ⟨hpos, by rw [mkS_cps]; exact hd, by rw [mkS_len]; exact hl, ?_⟩))
      refine no (P := False) (fun n hn => ?_) (fun h => h)
      have := (sec n hn).2
      omega
    · have ht : Tok p := h.resolve_left h0
      obtain ⟨m, hm, hlog⟩ : ∃ m : Int, PySem.intText? (mkS p) = some m ∧ m.natAbs.log2 < 1920 := by
        cases ht with
        | word h1 h2 =>
          have := ld_l (h2 _ (getLastD_mem h1))
          rw [hd] at this
          cases this.1
        | int h1 h2 =>
          have hall : ∀ c ∈ p, 48 ≤ c ∧ c ≤ 57 := fun c hc => isD_iff.mp (h2 c hc)
          exact ⟨_, PySem.intText_digits (x := mkS p) hall h1 (by rw [mkS_len]; omega), digits_small (cs := p) hall (by omega)⟩
        | @neg r h1 h2 =>
          have hall : ∀ c ∈ r, 48 ≤ c ∧ c ≤ 57 := fun c hc => isD_iff.mp (h2 c hc)
          refine ⟨_, PySem.intText_neg (x := mkS (45 :: r)) rfl hall h1 (by rw [mkS_len]; omega), ?_⟩
          rw [Int.natAbs_neg]
          exact digits_small hall (by rw [List.length_cons] at hl; omega)
        | sm h1 =>
          have := sm_cases h1
          simp only [SG, MK, List.cons_append, List.nil_append, List.mem_cons, List.not_mem_nil, or_false] at this
          rcases this with rfl | rfl | rfl | rfl | rfl | rfl | rfl | rfl | rfl | rfl | rfl <;> exact absurd hd (by decide)
      refine .inr (.inr (.inr ⟨m, hpos, by rw [mkS_cps]; exact hd, by rw [mkS_len]; omega, hm, hlog, ?_⟩))
      cases e : rdI p with
      | some n =>
        obtain ⟨e1, e2⟩ := rdI_spec e
        have e3 := (sec n e).1
        rw [hm] at e3
        cases e3
        rw [← e1, decide_eq_true rfl, e2]
        rfl
      | none =>
        cases hb : (decide (((toString m : String) : Str) = mkS p) && inB m) with
        | false => rfl
        | true =>
          rw [Bool.and_eq_true, decide_eq_true_iff] at hb
          have := rdI_num hb.2
          rw [hb.1, mkS_cps, e] at this
          cases this
end
section
variable {P : Program} {w : World} {K : PySem.W.Frag} {mg : Str → Option Value} {base : Heap}
variable {t_BOUND t_DIGITS t_LETTERS t_LONGEST_INTEGER t_LONGEST_NAME t_MOST_NESTED : Tok} {a_ALWAYS a_MARKS a_NEVER a_OPPOSITES a_RESERVED a_SIGNS a_BadName a_BadNumber a_BadSign a_BadText a_Condition a_ElseputError a_Reader a_TooLarge : Addr}
theorem Rd0.same {K : PySem.W.Frag} {H H' : Hp} {a p : Addr} {num e : Int} {toks : Tks} {i : Nat} (h : Rd0 K H a p num e toks i) (s : Same H H') : Rd0 K H' a p num e toks i := ⟨h.1.bt s, h.2⟩
theorem Rd0.to {K : PySem.W.Frag} {H H' : Hp} {a p : Addr} {num e : Int} {toks : Tks} {i j : Nat} (h : Rd0 K H a p num e toks i) (r : RdAt K H' a p num e toks j) : Rd0 K H' a p num e toks j := ⟨r, h.2⟩
theorem Took.same {K : PySem.W.Frag} {H H1 : Hp} {a p : Addr} {num e : Int} {toks : Tks} {i : Nat} {v : V} {Q : VK} (h : Took K H a p num e toks i v Q) (s : Same H H1) : Took K H1 a p num e toks i v Q := ⟨h.1, fun H' b r => h.2 H' ((Bt.same s).trans b) r⟩
theorem BadAt.same {K : PySem.W.Frag} {H H1 : Hp} {num col : Int} {E : XK} (h : BadAt K H num col E) (s : Same H H1) : BadAt K H1 num col E := fun C d H' hC s2 nd hd => h C d H' hC (s.trans s2) (Same.free s nd) hd
def sp_Reader_take_name (K : PySem.W.Frag) : Sp := fun vs H Q E => ∃ (a p : Addr) (num e : Int) (toks : Tks) (i : Nat), vs = [.ref a] ∧ Rd0 K H a p num e toks i ∧ (if isName (mkS (tokAt toks i)) = true then Took K H a p num e toks i (.str (mkS (tokAt toks i))) Q else BadAt K H num (colAt toks e i) E)
theorem len_Reader_take_name {vs : List V} {H : Hp} {Q : VK} {E : XK} (h : sp_Reader_take_name K vs H Q E) : vs.length = 1 := by
  obtain ⟨_, _, _, _, _, _, rfl, _⟩ := h
  rfl
theorem ok_Reader_take_name {f : Addr} {fd : FuncData} {f_is_name : Addr} {fd_is_name : FuncData} {f_Reader__take_if : Addr} {fd_Reader__take_if : FuncData} {f_Reader_ahead : Addr} {fd_Reader_ahead : FuncData} (F : Fun K "take_name" "Reader.take_name" s_Reader_take_name f fd) (T : Gs K mg t_BOUND t_DIGITS t_LETTERS t_LONGEST_INTEGER t_LONGEST_NAME t_MOST_NESTED a_ALWAYS a_MARKS a_NEVER a_OPPOSITES a_RESERVED a_SIGNS a_BadName a_BadNumber a_BadSign a_BadText a_Condition a_ElseputError a_Reader a_TooLarge) (c_is_name : Cal P w K mg base CX0 1 "is_name" f_is_name fd_is_name ["text"] (sp_is_name K)) (c_Reader__take_if : CalM P w K mg base (L2.CX P w) 4 a_Reader "_take_if" f_Reader__take_if fd_Reader__take_if ["self", "fits"] (sp_Reader__take_if K)) (c_Reader_ahead : CalM P w K mg base CX0 2 a_Reader "ahead" f_Reader_ahead fd_Reader_ahead ["self"] (sp_Reader_ahead K)) : FnOk P w K mg base (L2.CX P w) 5 f fd ["self"] (sp_Reader_take_name K) := by
  refine F.okX sc_Reader_take_name (fun vs H Q E h => len_Reader_take_name h) (fun cdv A outer s H vs Q E hr h => ?_)
  obtain ⟨a, p, num, e, toks, i, rfl, hR0, q⟩ := h
  obtain ⟨C, dx, ts, hC, ha, hp, hts, hi⟩ := id hR0.1
  cases hC.symm.trans T.n_Reader
  refine ⟨_, (pss_one (ps_ret (pe_meth (v_ 0) c_Reader__take_if.cl c_Reader__take_if.me c_Reader__take_if.G (hr.mono (by first | decide | omega)) c_Reader__take_if.b .nil (passes_call (takes_of rfl rfl rfl rfl) (fun _ _ _ _ h => h)) (pa_cons (pe_call c_is_name.G (hr.mono (by first | decide | omega)) rfl c_is_name.m c_is_name.kp c_is_name.b .nil pass0 (pa_cons (pe_meth0 (v_ 0) c_Reader_ahead.cl c_Reader_ahead.me c_Reader_ahead.G (hr.mono (by first | decide | omega)) c_Reader_ahead.b .nil pass0) pa_nil)) pa_nil)))), ?_⟩
  refine ⟨a, dx, _, rfl, ha, rfl, a, dx, _, rfl, ha, rfl, a, p, num, e, toks, i, rfl, hR0.1, _, rfl, by rw [mkS_len]; exact tokAt_le hR0.2.1, fun H1 s1 => ?_⟩
  refine ⟨a, p, num, e, toks, i, _, rfl, hR0.same s1, ?_⟩
  split
  · rename_i hn
    rw [if_pos hn] at q
    exact q.same s1
  · rename_i hn
    rw [if_neg hn] at q
    exact q.same s1
def sp_Reader_take_one (K : PySem.W.Frag) : Sp := fun vs H Q E => ∃ (a p w : Addr) (num e : Int) (toks : Tks) (i : Nat) (zs : List Str), vs = [.ref a, .ref w] ∧ Rd0 K H a p num e toks i ∧ SqT K H w (zs.map V.str) ∧ (if mkS (tokAt toks i) ∈ zs then Took K H a p num e toks i (.str (mkS (tokAt toks i))) Q else BadAt K H num (colAt toks e i) E)
theorem len_Reader_take_one {vs : List V} {H : Hp} {Q : VK} {E : XK} (h : sp_Reader_take_one K vs H Q E) : vs.length = 2 := by
  obtain ⟨_, _, _, _, _, _, _, _, rfl, _⟩ := h
  rfl
theorem ok_Reader_take_one {f : Addr} {fd : FuncData} {f_Reader__take_if : Addr} {fd_Reader__take_if : FuncData} {f_Reader_ahead : Addr} {fd_Reader_ahead : FuncData} (F : Fun K "take_one" "Reader.take_one" s_Reader_take_one f fd) (T : Gs K mg t_BOUND t_DIGITS t_LETTERS t_LONGEST_INTEGER t_LONGEST_NAME t_MOST_NESTED a_ALWAYS a_MARKS a_NEVER a_OPPOSITES a_RESERVED a_SIGNS a_BadName a_BadNumber a_BadSign a_BadText a_Condition a_ElseputError a_Reader a_TooLarge) (c_Reader__take_if : CalM P w K mg base (L2.CX P w) 4 a_Reader "_take_if" f_Reader__take_if fd_Reader__take_if ["self", "fits"] (sp_Reader__take_if K)) (c_Reader_ahead : CalM P w K mg base CX0 2 a_Reader "ahead" f_Reader_ahead fd_Reader_ahead ["self"] (sp_Reader_ahead K)) : FnOk P w K mg base (L2.CX P w) 5 f fd ["self", "words"] (sp_Reader_take_one K) := by
  refine F.okX sc_Reader_take_one (fun vs H Q E h => len_Reader_take_one h) (fun cdv A outer s H vs Q E hr h => ?_)
  obtain ⟨a, p, w, num, e, toks, i, zs, rfl, hR0, hw, q⟩ := h
  obtain ⟨C, dx, ts, hC, ha, hp, hts, hi⟩ := id hR0.1
  cases hC.symm.trans T.n_Reader
  refine ⟨_, (pss_one (ps_ret (pe_meth (v_ 0) c_Reader__take_if.cl c_Reader__take_if.me c_Reader__take_if.G (hr.mono (by first | decide | omega)) c_Reader__take_if.b .nil (passes_call (takes_of rfl rfl rfl rfl) (fun _ _ _ _ h => h)) (pa_cons (pe_c (inK K) (pe_meth0 (v_ 0) c_Reader_ahead.cl c_Reader_ahead.me c_Reader_ahead.G (hr.mono (by first | decide | omega)) c_Reader_ahead.b .nil pass0) (v_ 1)) pa_nil)))), ?_⟩
  refine ⟨a, dx, _, rfl, ha, rfl, a, dx, _, rfl, ha, rfl, a, p, num, e, toks, i, rfl, hR0.1, ?_⟩
  refine ⟨_, .inr hw, rfl, flat_strs, ?_⟩
  refine ⟨a, p, num, e, toks, i, decide (mkS (tokAt toks i) ∈ zs), ?_, hR0, ?_⟩
  · show [V.ref a, V.bl (inV (.str (mkS (tokAt toks i))) (zs.map V.str))] = _
    rw [inV_str]
  · split
    · rename_i hn
      rw [if_pos (of_decide_eq_true hn)] at q
      exact q
    · rename_i hn
      rw [if_neg (fun h => hn (decide_eq_true h))] at q
      exact q
def sp_Reader_take_integer (K : PySem.W.Frag) : Sp := fun vs H Q E => ∃ (a p : Addr) (num e : Int) (toks : Tks) (i : Nat), vs = [.ref a] ∧ Rd0 K H a p num e toks i ∧ TokE (tokAt toks i) ∧ (match rdI (tokAt toks i) with
  | some n => Took K H a p num e toks i (.int n) Q
  | none => BadAt K H num (colAt toks e i) E)
theorem len_Reader_take_integer {vs : List V} {H : Hp} {Q : VK} {E : XK} (h : sp_Reader_take_integer K vs H Q E) : vs.length = 1 := by
  obtain ⟨_, _, _, _, _, _, rfl, _⟩ := h
  rfl
theorem ok_Reader_take_integer {f : Addr} {fd : FuncData} {f_is_integer : Addr} {fd_is_integer : FuncData} {f_Reader__take_if : Addr} {fd_Reader__take_if : FuncData} {f_Reader_ahead : Addr} {fd_Reader_ahead : FuncData} (F : Fun K "take_integer" "Reader.take_integer" s_Reader_take_integer f fd) (T : Gs K mg t_BOUND t_DIGITS t_LETTERS t_LONGEST_INTEGER t_LONGEST_NAME t_MOST_NESTED a_ALWAYS a_MARKS a_NEVER a_OPPOSITES a_RESERVED a_SIGNS a_BadName a_BadNumber a_BadSign a_BadText a_Condition a_ElseputError a_Reader a_TooLarge) (c_is_integer : Cal P w K mg base CX0 2 "is_integer" f_is_integer fd_is_integer ["token"] (sp_is_integer K)) (c_Reader__take_if : CalM P w K mg base (L2.CX P w) 4 a_Reader "_take_if" f_Reader__take_if fd_Reader__take_if ["self", "fits"] (sp_Reader__take_if K)) (c_Reader_ahead : CalM P w K mg base CX0 2 a_Reader "ahead" f_Reader_ahead fd_Reader_ahead ["self"] (sp_Reader_ahead K)) : FnOk P w K mg base (L2.CX P w) 5 f fd ["self"] (sp_Reader_take_integer K) := by
  refine F.okX sc_Reader_take_integer (fun vs H Q E h => len_Reader_take_integer h) (fun cdv A outer s H vs Q E hr h => ?_)
  obtain ⟨a, p, num, e, toks, i, rfl, hR0, hT, q⟩ := h
  obtain ⟨C, dx, ts, hC, ha, hp, hts, hi⟩ := id hR0.1
  cases hC.symm.trans T.n_Reader
  refine ⟨_, (pss_one (ps_ret (pe_callTy call_int_str (by rfl) T.z_int (by decide +kernel) (pa_cons (pe_meth (v_ 0) c_Reader__take_if.cl c_Reader__take_if.me c_Reader__take_if.G (hr.mono (by first | decide | omega)) c_Reader__take_if.b .nil (passes_call (takes_of rfl rfl rfl rfl) (fun _ _ _ _ h => h)) (pa_cons (pe_call c_is_integer.G (hr.mono (by first | decide | omega)) rfl c_is_integer.m c_is_integer.kp c_is_integer.b .nil pass0 (pa_cons (pe_meth0 (v_ 0) c_Reader_ahead.cl c_Reader_ahead.me c_Reader_ahead.G (hr.mono (by first | decide | omega)) c_Reader_ahead.b .nil pass0) pa_nil)) pa_nil)) pa_nil)))), ?_⟩
  obtain ⟨hb, hn⟩ := intB_of hT
  refine ⟨a, dx, _, rfl, ha, rfl, a, dx, _, rfl, ha, rfl, a, p, num, e, toks, i, rfl, hR0.1, _, _, rfl, by rw [mkS_len]; exact tokAt_le hR0.2.1, hb, fun H1 s1 => ?_⟩
  refine ⟨a, p, num, e, toks, i, _, rfl, hR0.same s1, ?_⟩
  cases hr : rdI (tokAt toks i) with
  | none =>
    rw [hr] at q
    rw [if_neg (by decide)]
    exact BadAt.same q s1
  | some n =>
    rw [hr] at q
    obtain ⟨h1, h2⟩ := hn n hr
    rw [if_pos (show (some n).isSome = true from rfl)]
    obtain ⟨hlt, q⟩ := Took.same q s1
    exact ⟨hlt, fun H' b r => ⟨_, n, rfl, h1, by rw [mkS_len]; omega, q H' b r⟩⟩
def Inits (K : PySem.W.Frag) (H : Hp) (x : Addr) (z : Str) (num : Int) (Q : VK) (E : XK) : Prop := match splitL z.cps.toList 1 with
  | .ok l => ∀ (H' : Hp) (p : Addr), Bt x H H' → RdAt K H' x p num ((z.length : Int) + 1) l 0 → Q .non H'
  | .error c => BadAt K H num (c : Int) E
def sp_Reader___init__ (K : PySem.W.Frag) : Sp := fun vs H Q E => ∃ (x C dx : Addr) (z : Str) (num : Int), vs = [.ref x, .str z, .int num] ∧ PySem.W.nsIn K mainGlobals "Reader" = some (some (.ref C)) ∧ H x = some (.ins C dx []) ∧ z.length ≤ 20000 ∧ 0 ≤ num ∧ num ≤ 100000 ∧ Inits K H x z num Q E
theorem len_Reader___init__ {vs : List V} {H : Hp} {Q : VK} {E : XK} (h : sp_Reader___init__ K vs H Q E) : vs.length = 3 := by
  obtain ⟨_, _, _, _, _, rfl, _⟩ := h
  rfl
theorem ok_Reader___init__ {f : Addr} {fd : FuncData} {f_split_line : Addr} {fd_split_line : FuncData} (F : FunD K "__init__" "Reader.__init__" (defArgs s_Reader___init__) (defBody s_Reader___init__) (defScope s_Reader___init__) [(.int 1)] [] f fd) (T : Gs K mg t_BOUND t_DIGITS t_LETTERS t_LONGEST_INTEGER t_LONGEST_NAME t_MOST_NESTED a_ALWAYS a_MARKS a_NEVER a_OPPOSITES a_RESERVED a_SIGNS a_BadName a_BadNumber a_BadSign a_BadText a_Condition a_ElseputError a_Reader a_TooLarge) (c_split_line : Cal P w K mg base (L2.CX P w) 3 "split_line" f_split_line fd_split_line ["line", "number"] (sp_split_line K)) : FnOk P w K mg base (L2.CX P w) 4 f fd ["self", "line", "number"] (sp_Reader___init__ K) := by
  refine F.ok (CX := (L2.CX P w)) sc_Reader___init__ (fun vs H Q E h => len_Reader___init__ h) (fun cdv A outer s H vs Q E hr h => ?_)
  obtain ⟨x, C, dx, z, num, rfl, hC, hx, hz, n0, n1, q⟩ := h
  cases hC.symm.trans T.n_Reader
  refine ⟨_, (pss_cons (ps_fld (v_ 0) (pe_call c_split_line.G (hr.mono (by first | decide | omega)) rfl c_split_line.m c_split_line.kp c_split_line.b .nil (passes_call (takes_of rfl rfl rfl rfl) (fun _ _ _ _ h => h)) (pa_cons (v_ 1) (pa_cons (v_ 2) pa_nil))) (by rfl)) (pss_cons (ps_fld (v_ 0) (v_ 2) (by rfl)) (pss_cons (ps_fld (v_ 0) (pe_op (addK K) (pe_callB (lenK K) (by rfl) T.z_len PySem.boot_len (pa_cons (v_ 1) pa_nil)) pe_int) (by rfl)) (pss_one (ps_fld (v_ 0) pe_int (by rfl)))))), ?_⟩
  refine ⟨z, num, rfl, hz, n0, n1, ?_⟩
  unfold Inits at q
  unfold Splits
  cases hs : splitL z.cps.toList 1 with
  | error c =>
    rw [hs] at q
    exact q
  | ok l =>
    rw [hs] at q
    intro H1 p ts s1 np hp hts
    refine ⟨x, a_Reader, dx, _, rfl, s1 _ _ hx, T.cl_Reader, T.na_Reader__parts, by decide, ?_⟩
    refine ⟨x, a_Reader, dx, _, rfl, upd_same, T.cl_Reader, T.na_Reader__number, (by show 1 < 1000; decide), ?_⟩
    rw [upd_upd]
    refine ⟨line_of (by omega), ?_⟩
    refine ⟨x, a_Reader, dx, _, rfl, upd_same, T.cl_Reader, T.na_Reader__end, (by show 2 < 1000; decide), ?_⟩
    rw [upd_upd]
    refine ⟨x, a_Reader, dx, _, rfl, upd_same, T.cl_Reader, T.na_Reader__at, (by show 3 < 1000; decide), ?_⟩
    rw [upd_upd]
    refine q _ p (fun b o nb hb => by rw [upd_ne nb]; exact s1 _ _ hb) ⟨a_Reader, dx, ts, T.n_Reader, upd_same, ?_, hts.same fun b o ho hb => ?_, Nat.zero_le _⟩
    · rw [upd_ne (ne_of_none hx np).symm]
      exact hp
    · obtain ⟨z', i', rfl⟩ := ho
      rw [upd_ne (ne_of hb (s1 _ _ hx) (by intro e; cases e))]
      exact hb
end
section
variable {P : Program} {w : World} {K : PySem.W.Frag} {mg : Str → Option Value} {base : Heap}
variable {t_BOUND t_DIGITS t_LETTERS t_LONGEST_INTEGER t_LONGEST_NAME t_MOST_NESTED : Tok} {a_ALWAYS a_MARKS a_NEVER a_OPPOSITES a_RESERVED a_SIGNS a_BadName a_BadNumber a_BadSign a_BadText a_Condition a_ElseputError a_Reader a_TooLarge : Addr}
/-! ### trees -/
theorem take_snoc {α : Type} {xs : List α} {i : Nat} {x : α} (h : xs[i]? = some x) : xs.take (i + 1) = xs.take i ++ [x] := by
  rw [List.take_add_one, h]
  rfl
inductive Tr where
  | tt | ff
  | cmp (f s : Str) (n : Int)
  | con (w : Bool) (l r : Tr)
def wd (w : Bool) : Str := if w then "and" else "or"
def TAt (K : PySem.W.Frag) (H : Hp) : Tr → V → Prop
  | .tt, v => ∃ a, v = .ref a ∧ SqT K H a [.str "always"]
  | .ff, v => ∃ a, v = .ref a ∧ SqT K H a [.str "never"]
  | .cmp f s n, v => ∃ a, v = .ref a ∧ SqT K H a [.str "compare", .str f, .str s, .int n]
  | .con w l r, v => ∃ a x y, v = .ref a ∧ SqT K H a [.str (wd w), x, y] ∧ TAt K H l x ∧ TAt K H r y
theorem SqT.same {K : PySem.W.Frag} {H H' : Hp} {a : Addr} {xs : List V} (h : SqT K H a xs) (s : Same H H') : SqT K H' a xs := by
  rcases h with (h | ⟨o, h⟩) | h
  · exact .inl (.inl (s _ _ h))
  · exact .inl (.inr ⟨o, s _ _ h⟩)
  · exact .inr h
/-- no tuple stands at st -/
def NT (H : Hp) (st : Addr) : Prop := ∀ xs : List V, H st ≠ some (.tup xs) ∧ ∀ o, H st ≠ some (.frz o (.tup xs))
theorem NT.lst {H : Hp} {st : Addr} (h : ∃ l, H st = some (.lst l)) : NT H st := fun xs => by
  obtain ⟨l, h⟩ := h
  rw [h]
  exact ⟨(fun e => by cases e), (fun o e => by cases e)⟩
theorem NT.ins {H : Hp} {st C dx : Addr} {fs : List (Str × V)} (h : H st = some (.ins C dx fs)) : NT H st := fun xs => by
  rw [h]
  exact ⟨(fun e => by cases e), (fun o e => by cases e)⟩
theorem SqT.bt {K : PySem.W.Frag} {H H' : Hp} {a st : Addr} {xs : List V} (h : SqT K H a xs) (hs : NT H st) (s : Bt st H H') : SqT K H' a xs := by
  rcases h with (h | ⟨o, h⟩) | h
  · exact .inl (.inl (s _ _ (fun e => (hs xs).1 (e ▸ h)) h))
  · exact .inl (.inr ⟨o, s _ _ (fun e => (hs xs).2 o (e ▸ h)) h⟩)
  · exact .inr h
theorem ty_tup {K : PySem.W.Frag} {H : Hp} {a : Addr} {xs : List V} (h : SqT K H a xs) : TyX K H (.ref a) (.type "tuple") := by
  rcases h with (h | ⟨o, h⟩) | ⟨o, its, n, e, c, _⟩
  · exact .base (.tup h)
  · exact .fTuple h
  · exact .kTuple e c
theorem TAt.same {K : PySem.W.Frag} {H H' : Hp} (s : Same H H') : ∀ {t : Tr} {v : V}, TAt K H t v → TAt K H' t v
  | .tt, _, ⟨a, e, h⟩ => ⟨a, e, SqT.same h s⟩
  | .ff, _, ⟨a, e, h⟩ => ⟨a, e, SqT.same h s⟩
  | .cmp _ _ _, _, ⟨a, e, h⟩ => ⟨a, e, SqT.same h s⟩
  | .con _ _ _, _, ⟨a, x, y, e, h, h1, h2⟩ => ⟨a, x, y, e, SqT.same h s, TAt.same s h1, TAt.same s h2⟩
theorem TAt.bt {K : PySem.W.Frag} {H H' : Hp} {st : Addr} (hs : NT H st) (s : Bt st H H') : ∀ {t : Tr} {v : V}, TAt K H t v → TAt K H' t v
  | .tt, _, ⟨a, e, h⟩ => ⟨a, e, SqT.bt h hs s⟩
  | .ff, _, ⟨a, e, h⟩ => ⟨a, e, SqT.bt h hs s⟩
  | .cmp _ _ _, _, ⟨a, e, h⟩ => ⟨a, e, SqT.bt h hs s⟩
  | .con _ _ _, _, ⟨a, x, y, e, h, h1, h2⟩ => ⟨a, x, y, e, SqT.bt h hs s, TAt.bt hs s h1, TAt.bt hs s h2⟩
def Tr.depth : Tr → Nat
  | .con _ l r => max l.depth r.depth + 1
  | _ => 0
/-- the comparisons, from left to right -/
def Tr.cs : Tr → List (Str × Str × Int)
  | .cmp f s n => [(f, s, n)]
  | .con _ l r => l.cs ++ r.cs
  | _ => []
theorem Tr.cs_depth : ∀ t : Tr, t.cs.length ≤ 2 ^ t.depth
  | .tt => Nat.zero_le _
  | .ff => Nat.zero_le _
  | .cmp _ _ _ => Nat.le_refl _
  | .con _ l r => by
    have h1 := Tr.cs_depth l
    have h2 := Tr.cs_depth r
    show (l.cs ++ r.cs).length ≤ 2 ^ (max l.depth r.depth + 1)
    have p1 : 2 ^ l.depth ≤ 2 ^ (max l.depth r.depth) := Nat.pow_le_pow_right (by decide) (Nat.le_max_left _ _)
    have p2 : 2 ^ r.depth ≤ 2 ^ (max l.depth r.depth) := Nat.pow_le_pow_right (by decide) (Nat.le_max_right _ _)
    rw [List.length_append, Nat.pow_succ]
    omega
/-- the objects of comparisons -/
def CsAt (K : PySem.W.Frag) (H : Hp) (xs : List V) (cs : List (Str × Str × Int)) : Prop := xs.length = cs.length ∧ ∀ (i : Nat) (c : Str × Str × Int), cs[i]? = some c → ∃ a : Addr, xs[i]? = some (V.ref a) ∧ SqT K H a [.str "compare", .str c.1, .str c.2.1, .int c.2.2]
theorem CsAt.same {K : PySem.W.Frag} {H H' : Hp} {xs : List V} {cs : List (Str × Str × Int)} (h : CsAt K H xs cs) (s : Same H H') : CsAt K H' xs cs := ⟨h.1, fun i c hc => by
  obtain ⟨a, e, q⟩ := h.2 i c hc
  exact ⟨a, e, SqT.same q s⟩⟩
theorem CsAt.bt {K : PySem.W.Frag} {H H' : Hp} {st : Addr} {xs : List V} {cs : List (Str × Str × Int)} (h : CsAt K H xs cs) (hs : NT H st) (s : Bt st H H') : CsAt K H' xs cs := ⟨h.1, fun i c hc => by
  obtain ⟨a, e, q⟩ := h.2 i c hc
  exact ⟨a, e, SqT.bt q hs s⟩⟩
theorem CsAt.app {K : PySem.W.Frag} {H : Hp} {xs ys : List V} {cs ds : List (Str × Str × Int)} (h : CsAt K H xs cs) (k : CsAt K H ys ds) : CsAt K H (xs ++ ys) (cs ++ ds) := ⟨by rw [List.length_append, List.length_append, h.1, k.1], fun i c hc => by
  by_cases e : i < cs.length
  · rw [List.getElem?_append_left e] at hc
    rw [List.getElem?_append_left (by rw [h.1]; exact e)]
    exact h.2 i c hc
  · rw [List.getElem?_append_right (by omega)] at hc
    rw [List.getElem?_append_right (by rw [h.1]; omega), h.1]
    exact k.2 _ c hc⟩
def spCmps (n : Nat) : PySem.W.Frag → Sp := fun K vs H Q _ => ∃ (v : V) (t : Tr), vs = [v] ∧ TAt K H t v ∧ t.depth < n ∧ t.cs.length ≤ 1000 ∧
  ∀ (H' : Hp) (D : Addr) (xs : List V), Same H H' → H D = none → H' D = some (.lst xs) → CsAt K H' xs t.cs → Q (.ref D) H'
theorem len_cmps {n : Nat} {vs : List V} {H : Hp} {Q : VK} {E : XK} (h : spCmps n K vs H Q E) : vs.length = 1 := by
  obtain ⟨_, _, rfl, _⟩ := h
  rfl
theorem cmps_step {n k : Nat} {f : Addr} {fd : FuncData} (F : Fun K "comparisons" "comparisons" s_comparisons f fd) (T : Gs K mg t_BOUND t_DIGITS t_LETTERS t_LONGEST_INTEGER t_LONGEST_NAME t_MOST_NESTED a_ALWAYS a_MARKS a_NEVER a_OPPOSITES a_RESERVED a_SIGNS a_BadName a_BadNumber a_BadSign a_BadText a_Condition a_ElseputError a_Reader a_TooLarge)
    (c_comparisons : Cal P w K mg base CX0 k "comparisons" f fd ["tree"] (spCmps n K)) (hk : 1 ≤ k) : FnOk P w K mg base CX0 (k + 1) f fd ["tree"] (spCmps (n + 1) K) := by
  refine F.ok sc_comparisons (fun vs H Q E h => len_cmps h) (fun cdv A outer s H vs Q E hr h => ?_)
  obtain ⟨v, t, rfl, ht, hd, hl, q⟩ := h
  refine ⟨_, (pss_cons (ps_if (pt_c (eqK K hr.units) (e_x K (v_ 0) pe_int) pe_str) (pss_one (ps_ret (pe_lst (pa_cons (v_ 0) pa_nil)))) pss_nil) (pss_one (ps_ret (pe_lc2 (own := [("branch", 1), ("part", 2)]) (vs1 := [2]) (g := gName 1) (g1 := gName 2) (by rfl) sc_comparisons.nd (pi_tup (pe_slice (slK K) (v_ 0) (po_some pe_int) po_none)) (blkOk_by (N := ["tree", "branch", "part"]) (sc := defScope s_comparisons) (by decide +kernel)) (by decide) (fun _ _ _ _ _ => pg_name (i := 1) sc_comparisons.nd rfl (Or.inl rfl)) (fun _ _ _ _ _ => pts_nil) (fun _ _ _ _ _ => (pi_seqK K (pe_call c_comparisons.G (hr.mono (by first | decide | omega)) rfl c_comparisons.m c_comparisons.kp c_comparisons.b .nil pass0 (pa_cons (v_ 1) pa_nil)))) (fun _ _ _ _ _ => pg_name (i := 2) sc_comparisons.nd rfl (Or.inl rfl)) (fun _ _ _ _ _ => pts_nil) (fun _ _ _ _ _ => (v_ 2)))))), ?_⟩
  cases t with
  | cmp f s m =>
    obtain ⟨a, rfl, ha⟩ := ht
    refine ⟨_, .inr ha, .str "compare", rfl, ?_⟩
    refine ⟨(by show 1 ≤ sizeLine; decide), fun D nD => ?_⟩
    refine q _ D [.ref a] (same_new nD) nD upd_same ⟨rfl, fun i c hc => ?_⟩
    match i, hc with
    | 0, hc => cases hc; exact ⟨a, rfl, SqT.same ha (same_new nD)⟩
  | tt =>
    obtain ⟨a, rfl, ha⟩ := ht
    refine ⟨_, .inr ha, .str "always", rfl, ?_⟩
    refine ⟨1, rfl, .inr ⟨a, _, rfl, ha, by decide +kernel, fun p np => ?_⟩⟩
    refine ⟨p, rfl, ⟨_, SqT.of upd_same⟩, fun D nD => ?_⟩
    have sD := (same_new (o := .tup (cutV [.str "always"] (some 1) none)) np).trans (same_new (o := .lst []) nD)
    refine lc2_it (walk_tup (xs := [])) (fun i H1 => H1 = upd (upd H p (.tup (cutV [.str "always"] (some 1) none))) D (.lst [])) rfl (fun _ _ _ h => by rw [h]; exact SqT.of (same_new nD _ _ upd_same)) ?_ ?_
    · rintro i v H1 H2 hi
      cases hi
    · rintro H1 rfl
      exact q _ D [] sD (free_new nD) upd_same ⟨rfl, fun i c hc => nomatch hc⟩
  | ff =>
    obtain ⟨a, rfl, ha⟩ := ht
    refine ⟨_, .inr ha, .str "never", rfl, ?_⟩
    refine ⟨1, rfl, .inr ⟨a, _, rfl, ha, by decide +kernel, fun p np => ?_⟩⟩
    refine ⟨p, rfl, ⟨_, SqT.of upd_same⟩, fun D nD => ?_⟩
    have sD := (same_new (o := .tup (cutV [.str "never"] (some 1) none)) np).trans (same_new (o := .lst []) nD)
    refine lc2_it (walk_tup (xs := [])) (fun i H1 => H1 = upd (upd H p (.tup (cutV [.str "never"] (some 1) none))) D (.lst [])) rfl (fun _ _ _ h => by rw [h]; exact SqT.of (same_new nD _ _ upd_same)) ?_ ?_
    · rintro i v H1 H2 hi
      cases hi
    · rintro H1 rfl
      exact q _ D [] sD (free_new nD) upd_same ⟨rfl, fun i c hc => nomatch hc⟩
  | con w l r =>
    obtain ⟨a, x, y, rfl, ha, hx, hy⟩ := ht
    have hw : ∀ (P : Prop), (w = true → P) → (w = false → P) → P := fun P h1 h2 => by cases w; exact h2 rfl; exact h1 rfl
    have dl : l.depth < n := by have : max l.depth r.depth + 1 < n + 1 := hd; omega
    have dr : r.depth < n := by have : max l.depth r.depth + 1 < n + 1 := hd; omega
    have ll : (l.cs ++ r.cs).length ≤ 1000 := hl
    rw [List.length_append] at ll
    have ec : cutV [V.str (wd w), x, y] (some 1) none = [x, y] := rfl
    refine ⟨_, .inr ha, .str (wd w), rfl, ?_⟩
    refine ite2 (fun e => ?_) (fun _ => ?_)
    · cases w <;> exact absurd e (by decide +kernel)
    refine ⟨1, rfl, .inr ⟨a, _, rfl, ha, (by show ¬ (1 = 0 ∧ 3 = 3); decide), fun p np => ?_⟩⟩
    rw [ec]
    have sp := same_new (o := .tup [x, y]) np
    have hp := upd_same (H := H) (a := p) (o := .tup [x, y])
    generalize upd H p (.tup [x, y]) = H1 at sp hp ⊢
    refine ⟨p, rfl, ⟨_, SqT.of hp⟩, fun D nD => ?_⟩
    refine lc2_it (walk_tup (xs := [x, y])) (fun i H' => Same H1 H' ∧ ∃ pre : List V, H' D = some (.lst pre) ∧ CsAt K H' pre (if i = 0 then [] else if i = 1 then l.cs else l.cs ++ r.cs)) ⟨same_new nD, [], upd_same, rfl, fun i c hc => nomatch hc⟩ (fun _ _ _ h => SqT.of (h.1 _ _ hp)) ?_ ?_
    · rintro i v H2 H3 hi ⟨s2, pre, hD, hpre⟩ ⟨rfl, hv⟩
      have hv : ([x, y] : List V)[i]? = some v := hv
      obtain ⟨t, ht, dt, lt, ec, lp⟩ : ∃ t : Tr, TAt K H t v ∧ t.depth < n ∧ t.cs.length ≤ 1000 ∧ (if i + 1 = 0 then [] else if i + 1 = 1 then l.cs else l.cs ++ r.cs) = (if i = 0 then [] else if i = 1 then l.cs else l.cs ++ r.cs) ++ t.cs ∧ (if i = 0 then [] else if i = 1 then l.cs else l.cs ++ r.cs : List (Str × Str × Int)).length ≤ 1000 := by
        match i, hv with
        | 0, hv => cases hv; exact ⟨l, hx, dl, by omega, rfl, Nat.zero_le _⟩
        | 1, hv => cases hv; exact ⟨r, hy, dr, by omega, rfl, (by show l.cs.length ≤ 1000; omega)⟩
      rw [ec]
      generalize (if i = 0 then [] else if i = 1 then l.cs else l.cs ++ r.cs : List (Str × Str × Int)) = pc at hpre lp
      refine ⟨rfl, ?_⟩
      refine ⟨v, t, rfl, TAt.same (sp.trans s2) ht, dt, lt, fun H4 B xs s4 nB hB hcs => ?_⟩
      have hD4 := s4 _ _ hD
      have BD : B ≠ D := ne_of_none hD nB |>.symm
      refine ⟨B, xs, rfl, .inl ⟨SqL.of hB, ?_⟩⟩
      refine inner2_it (walk_list (xs := xs)) (fun j H' => Same H1 H' ∧ H' B = some (.lst xs) ∧ CsAt K H' xs t.cs ∧ CsAt K H' pre pc ∧ H' D = some (.lst (pre ++ xs.take j))) ⟨s2.trans s4, hB, hcs, hpre.same s4, by rw [hD4, List.take_zero, List.append_nil]⟩ (fun _ _ _ h => SqL.of h.2.1) ?_ ?_
      · rintro j v2 H5 H6 hj ⟨s5, hB5, hc5, hp5, hD5⟩ ⟨rfl, hv2⟩
        refine ⟨rfl, ?_⟩
        have l1 := hp5.1
        have l2 := hc5.1
        have hDl : NT H6 D := NT.lst ⟨_, hD5⟩
        refine ⟨_, hD5, line_lt (by rw [List.length_append, List.length_take]; omega), fun b o hb => ?_, ?_, hc5.bt hDl Bt.st, hp5.bt hDl Bt.st, ?_⟩
        · rw [upd_ne (ne_of_none hb nD)]
          exact s5 _ _ hb
        · rw [upd_ne BD]
          exact hB5
        · rw [upd_same, List.append_assoc, ← take_snoc hv2]
      · rintro H5 ⟨s5, hB5, hc5, hp5, hD5⟩
        rw [List.take_length] at hD5
        exact ⟨s5, _, hD5, hp5.app hc5⟩
    · rintro H2 ⟨s2, pre, hD, hpre⟩
      exact q _ D pre (sp.trans s2) (Same.free sp nD) hD hpre
theorem cmps_all {f : Addr} {fd : FuncData} (F : Fun K "comparisons" "comparisons" s_comparisons f fd) (T : Gs K mg t_BOUND t_DIGITS t_LETTERS t_LONGEST_INTEGER t_LONGEST_NAME t_MOST_NESTED a_ALWAYS a_MARKS a_NEVER a_OPPOSITES a_RESERVED a_SIGNS a_BadName a_BadNumber a_BadSign a_BadText a_Condition a_ElseputError a_Reader a_TooLarge)
    (b : Binds K fd ["tree"] []) (kp : PySem.W.keepIn K (.ref f) = true) (m : mg "comparisons" = some (.ref f)) : ∀ n : Nat, FnOk P w K mg base CX0 (n + 2) f fd ["tree"] (spCmps n K)
  | 0 => ⟨fun _ _ _ _ h => len_cmps h, by
    intro A outer s H args us vs Q E _ _ _ _ h
    obtain ⟨_, _, _, _, h, _⟩ := h
    exact absurd h (Nat.not_lt_zero _)⟩
  | n + 1 => cmps_step F T ⟨cmps_all F T b kp m n, b, kp, m⟩ (by omega)
def sp_comparisons : PySem.W.Frag → Sp := spCmps 20
theorem ok_comparisons {f : Addr} {fd : FuncData} (F : Fun K "comparisons" "comparisons" s_comparisons f fd) (T : Gs K mg t_BOUND t_DIGITS t_LETTERS t_LONGEST_INTEGER t_LONGEST_NAME t_MOST_NESTED a_ALWAYS a_MARKS a_NEVER a_OPPOSITES a_RESERVED a_SIGNS a_BadName a_BadNumber a_BadSign a_BadText a_Condition a_ElseputError a_Reader a_TooLarge) (b : Binds K fd ["tree"] []) (kp : PySem.W.keepIn K (.ref f) = true) (m : mg "comparisons" = some (.ref f)) :
    FnOk P w K mg base CX0 22 f fd ["tree"] (sp_comparisons K) := cmps_all F T b kp m 20
end
section
variable {P : Program} {w : World} {K : PySem.W.Frag} {mg : Str → Option Value} {base : Heap}
variable {t_BOUND t_DIGITS t_LETTERS t_LONGEST_INTEGER t_LONGEST_NAME t_MOST_NESTED : Tok} {a_ALWAYS a_MARKS a_NEVER a_OPPOSITES a_RESERVED a_SIGNS a_BadName a_BadNumber a_BadSign a_BadText a_Condition a_ElseputError a_Reader a_TooLarge : Addr}
/-! ### conditions -/
theorem same_mk {H : Hp} {x dx C : Addr} (nx : H x = none) (nd : H dx = none) : Same H (upd (upd H dx (.own x)) x (.ins C dx [])) := fun b o hb => by
  rw [upd_ne (ne_of_none hb nx), upd_ne (ne_of_none hb nd)]
  exact hb
def Tr.flds (t : Tr) : List Str := t.cs.map (·.1)
/-- the compared fields, in alphabetical order -/
def FOf (ss : List Str) (fs : List Str) : Prop := sortedS ss = true ∧ ss.Nodup ∧ ∀ k, k ∈ ss ↔ k ∈ fs
def CnAt (K : PySem.W.Frag) (H : Hp) (a : Addr) (t : Tr) : Prop := ∃ (C dx u : Addr) (v : V) (ss : List Str), PySem.W.nsIn K mainGlobals "Condition" = some (some (.ref C)) ∧ H a = some (.ins C dx [("tree", v), ("_fields", .ref u)]) ∧ TAt K H t v ∧ H u = some (.tup (ss.map V.str)) ∧ FOf ss t.flds ∧ ss.length ≤ 60
theorem CnAt.same {K : PySem.W.Frag} {H H' : Hp} {a : Addr} {t : Tr} (h : CnAt K H a t) (s : Same H H') : CnAt K H' a t := by
  obtain ⟨C, dx, u, v, ss, h1, h2, h3, h4, h5⟩ := h
  exact ⟨C, dx, u, v, ss, h1, s _ _ h2, h3.same s, s _ _ h4, h5⟩
theorem CnAt.bt {K : PySem.W.Frag} {H H' : Hp} {a st : Addr} {t : Tr} (h : CnAt K H a t) (hs : ∃ l, H st = some (.lst l)) (s : Bt st H H') : CnAt K H' a t := by
  obtain ⟨C, dx, u, v, ss, h1, h2, h3, h4, h5⟩ := h
  obtain ⟨l, hl⟩ := hs
  exact ⟨C, dx, u, v, ss, h1, s _ _ (ne_of h2 hl (by intro e; cases e)) h2, h3.bt (NT.lst ⟨l, hl⟩) s, s _ _ (ne_of h4 hl (by intro e; cases e)) h4, h5⟩
def sp_Condition___init__ (K : PySem.W.Frag) : Sp := fun vs H Q _ => ∃ (a C dx : Addr) (v : V) (t : Tr), vs = [.ref a, v] ∧ PySem.W.nsIn K mainGlobals "Condition" = some (some (.ref C)) ∧ H a = some (.ins C dx []) ∧ TAt K H t v ∧ t.depth < 20 ∧ t.cs.length ≤ 50 ∧
  ∀ H' : Hp, Bt a H H' → CnAt K H' a t → Q .non H'
theorem len_Condition___init__ {vs : List V} {H : Hp} {Q : VK} {E : XK} (h : sp_Condition___init__ K vs H Q E) : vs.length = 2 := by
  obtain ⟨_, _, _, _, _, rfl, _⟩ := h
  rfl
theorem ok_Condition___init__ {f : Addr} {fd : FuncData} {f_comparisons : Addr} {fd_comparisons : FuncData} (F : Fun K "__init__" "Condition.__init__" s_Condition___init__ f fd) (T : Gs K mg t_BOUND t_DIGITS t_LETTERS t_LONGEST_INTEGER t_LONGEST_NAME t_MOST_NESTED a_ALWAYS a_MARKS a_NEVER a_OPPOSITES a_RESERVED a_SIGNS a_BadName a_BadNumber a_BadSign a_BadText a_Condition a_ElseputError a_Reader a_TooLarge) (c_comparisons : Cal P w K mg base CX0 22 "comparisons" f_comparisons fd_comparisons ["tree"] (sp_comparisons K)) : FnOk P w K mg base CX0 23 f fd ["self", "tree"] (sp_Condition___init__ K) := by
  refine F.ok sc_Condition___init__ (fun vs H Q E h => len_Condition___init__ h) (fun cdv A outer s H vs Q E hr h => ?_)
  obtain ⟨a, C, dx, v, t, rfl, hC, ha, ht, td, tl, q⟩ := h
  cases hC.symm.trans T.n_Condition
  refine ⟨_, (pss_cons (ps_fld (v_ 0) (v_ 1) (by rfl)) (pss_one (ps_fld (v_ 0) (pe_callTy (tupleK K) (by rfl) T.z_tuple (by decide +kernel) (pa_cons (pe_callB (cr_sortTx rfl) (by rfl) T.z_sorted (by decide +kernel) (pa_cons (pe_scT (own := [("part", 2)]) (g := gName 2) (by rfl) sc_Condition___init__.nd (pi_list (pe_call c_comparisons.G (hr.mono (by first | decide | omega)) rfl c_comparisons.m c_comparisons.kp c_comparisons.b .nil pass0 (pa_cons (v_ 1) pa_nil))) (blkOk_by (N := ["self", "tree", "part"]) (sc := defScope s_Condition___init__) (by decide +kernel)) (fun _ _ _ _ _ => pg_name (i := 2) sc_Condition___init__.nd rfl (Or.inl rfl)) (fun _ _ _ _ _ => pts_nil) (fun _ _ _ _ _ => (e_x K (v_ 2) pe_int))) pa_nil)) pa_nil)) (by rfl)))), ?_⟩
  refine ⟨a, a_Condition, dx, [], rfl, ha, T.cl_Condition, T.na_Condition_tree, by decide, ?_⟩
  generalize hH2 : upd H a _ = H2
  have b1 : Bt a H H2 := fun b o nb hb => by rw [← hH2, upd_ne nb]; exact hb
  have ha2 : H2 a = some (.ins a_Condition dx [("tree", v)]) := by rw [← hH2, upd_same]; rfl
  have ht2 : TAt K H2 t v := ht.bt (NT.ins ha) b1
  clear hH2
  refine ⟨v, t, rfl, ht2, td, Nat.le_trans tl (by decide), fun H3 D xs s3 nD hD hxs => ?_⟩
  refine ⟨D, rfl, ⟨_, SqL.of hD⟩, fun S nS => ?_⟩
  refine sct_it (walk_list (xs := xs)) (fun i H' => Same H3 H' ∧ ∃ (f : Str → Bool) (n : Nat), H' S = some (TxO P w S f n) ∧ n ≤ i ∧ ∀ k, f k = true ↔ k ∈ (t.cs.take i).map (·.1)) ⟨same_new nS, _, _, upd_same, Nat.le_refl _, fun k => ⟨(fun h => nomatch h), (fun h => nomatch h)⟩⟩ (fun _ _ _ h => SqL.of (h.1 _ _ hD)) ?_ ?_
  · rintro i v2 H4 H5 hi ⟨s4, f, n, hS, hn, hf⟩ ⟨rfl, hv⟩
    have hil : i < t.cs.length := by rw [← hxs.1]; exact hi
    obtain ⟨c, ec⟩ : ∃ c, t.cs[i]? = some c := ⟨_, List.getElem?_eq_getElem hil⟩
    obtain ⟨b, eb, hb⟩ := hxs.2 i c ec
    have hv : xs[i]? = some v2 := hv
    rw [eb] at hv
    cases hv
    have i1 : atI [V.str "compare", .str c.1, .str c.2.1, .int c.2.2] (1 : Int) = some (.str c.1) := rfl
    refine ⟨rfl, ?_⟩
    refine ⟨_, .inr (SqT.same hb s4), .str c.1, i1, c.1, _, _, rfl, hS, (by have h1 : scanBound > 1000 := (by decide); omega), fun b2 o hb2 => ?_, _, _, upd_same, ?_, fun k => ?_⟩
    · rw [upd_ne (ne_of_none hb2 nS)]
      exact s4 _ _ hb2
    · split <;> omega
    · rw [Bool.or_eq_true, hf k, take_snoc ec, List.map_append, List.mem_append, decide_eq_true_iff]
      simp
  · rintro H4 ⟨s4, f, n, hS, hn, hf⟩
    rw [hxs.1, List.take_length] at hf
    refine ⟨S, _, n, rfl, hS, by have := hxs.1; omega, fun ss p h1 h2 hm hl nP => ?_⟩
    have sp := s4.trans (same_new (o := .lst (ss.map V.str)) nP)
    refine ⟨p, ss.map V.str, rfl, .inl ⟨SqL.of upd_same, fun u nu => ?_⟩⟩
    have su := sp.trans (same_new (o := .tup (ss.map V.str)) nu)
    have hu := upd_same (H := upd H4 p (.lst (ss.map V.str))) (a := u) (o := .tup (ss.map V.str))
    generalize upd (upd H4 p (.lst (ss.map V.str))) u (.tup (ss.map V.str)) = H6 at su hu ⊢
    have s6 := s3.trans su
    have ha6 := s6 _ _ ha2
    have ua : u ≠ a := ne_of hu ha6 (by intro e; cases e)
    refine ⟨a, a_Condition, dx, _, rfl, ha6, T.cl_Condition, T.na_Condition__fields, (by show 1 < 1000; decide), ?_⟩
    have ht6 := ht2.same s6
    refine q _ (fun b o nb hb => ?_) ⟨a_Condition, dx, u, v, ss, T.n_Condition, by rw [upd_same]; rfl, ht6.bt (NT.ins ha6) Bt.st, by rw [upd_ne ua]; exact hu, ⟨h1, h2, fun k => (hm k).trans (hf k)⟩, by have := hxs.1; omega⟩
    rw [upd_ne nb]
    exact s6 _ _ (b1 _ _ nb hb)
end
section
variable {P : Program} {w : World} {K : PySem.W.Frag} {mg : Str → Option Value} {base : Heap}
variable {t_BOUND t_DIGITS t_LETTERS t_LONGEST_INTEGER t_LONGEST_NAME t_MOST_NESTED : Tok} {a_ALWAYS a_MARKS a_NEVER a_OPPOSITES a_RESERVED a_SIGNS a_BadName a_BadNumber a_BadSign a_BadText a_Condition a_ElseputError a_Reader a_TooLarge : Addr}
/-! ### joining -/
abbrev signs : List Str := ["<", "<=", "==", "!=", ">=", ">"]
theorem signs_asc : ∀ s ∈ signs, s.length ≤ 1000 ∧ Asc s := (by decide +kernel : ∀ s ∈ signs, s.length ≤ 1000 ∧ ∀ c ∈ s.cps.toList, c < 16 ^ 8)
theorem signs_ok : ∀ s ∈ signs, PyData.strOk s = true := by decide +kernel
def Tr.ok (t : Tr) : Prop := ∀ c ∈ t.cs, isName c.1 = true ∧ c.2.1 ∈ signs ∧ Bd c.2.2
theorem name_ok {z : Str} (h : isName z = true) : PyData.strOk z = true := by
  show z.cps.all _ = true
  rw [← Array.all_toList]
  refine List.all_eq_true.mpr fun c hc => ?_
  have hm := (isName_mem h).1 c hc
  have all : letters.cps.toList.all (fun c => decide (c < 0x110000)) = true := by decide +kernel
  exact List.all_eq_true.mp all c hm
def dat : Tr → PyData
  | .tt => .tuple [.str "always"]
  | .ff => .tuple [.str "never"]
  | .cmp f s n => .tuple [.str "compare", .str f, .str s, .int n]
  | .con w l r => .tuple [.str (wd w), dat l, dat r]
theorem TAt.dp {K : PySem.W.Frag} {H : Hp} : ∀ {t : Tr} {v : V}, TAt K H t v → Dp K H v (dat t)
  | .tt, _, ⟨a, e, h⟩ => e ▸ .tup h (.cons (.str _) .nil)
  | .ff, _, ⟨a, e, h⟩ => e ▸ .tup h (.cons (.str _) .nil)
  | .cmp _ _ _, _, ⟨a, e, h⟩ => e ▸ .tup h (.cons (.str _) (.cons (.str _) (.cons (.str _) (.cons (.int _) .nil))))
  | .con _ _ _, _, ⟨a, x, y, e, h, h1, h2⟩ => e ▸ .tup h (.cons (.str _) (.cons (TAt.dp h1) (.cons (TAt.dp h2) .nil)))
theorem TAt.ref {K : PySem.W.Frag} {H : Hp} : ∀ {t : Tr} {v : V}, TAt K H t v → ∃ a, v = .ref a
  | .tt, _, ⟨a, e, _⟩ => ⟨a, e⟩
  | .ff, _, ⟨a, e, _⟩ => ⟨a, e⟩
  | .cmp _ _ _, _, ⟨a, e, _⟩ => ⟨a, e⟩
  | .con _ _ _, _, ⟨a, _, _, e, _⟩ => ⟨a, e⟩
theorem Tr.ok.l {w : Bool} {l r : Tr} (h : (Tr.con w l r).ok) : l.ok := fun c hc => h c (List.mem_append.mpr (.inl hc))
theorem Tr.ok.r {w : Bool} {l r : Tr} (h : (Tr.con w l r).ok) : r.ok := fun c hc => h c (List.mem_append.mpr (.inr hc))
theorem dat_lay : ∀ {t : Tr}, t.ok → PyData.canLay0 (dat t) = true
  | .tt, _ => by decide +kernel
  | .ff, _ => by decide +kernel
  | .cmp f s n, h => by
    obtain ⟨h1, h2, _⟩ := h (f, s, n) (List.mem_singleton.mpr rfl)
    have e1 := name_ok h1
    have e2 := signs_ok s h2
    have e0 : PyData.strOk "compare" = true := by decide +kernel
    simp only [dat, PyData.canLay0, PyData.canLayAll0, e0, e1, e2, Bool.and_self]
  | .con w l r, h => by
    have e1 := dat_lay h.l
    have e2 := dat_lay h.r
    have e0 : PyData.strOk (wd w) = true := by cases w <;> decide +kernel
    simp only [dat, PyData.canLay0, PyData.canLayAll0, e0, e1, e2, Bool.and_self]
theorem dat_depth : ∀ t : Tr, (dat t).depth ≤ t.depth + 1
  | .tt => by simp [dat, PyData.depth, PyData.depthAll]
  | .ff => by simp [dat, PyData.depth, PyData.depthAll]
  | .cmp _ _ _ => by simp [dat, PyData.depth, PyData.depthAll]
  | .con w l r => by
    have h1 := dat_depth l
    have h2 := dat_depth r
    simp only [dat, PyData.depth, PyData.depthAll, Tr.depth]
    omega
theorem dat_shaped {t : Tr} (h : t.ok) (hd : t.depth < 40) : SeqAt.shaped (dat t) = true := by
  show ((dat t).canLay0 && decide ((dat t).depth ≤ 64)) = true
  rw [Bool.and_eq_true]
  have := dat_depth t
  exact ⟨dat_lay h, decide_eq_true (by omega)⟩
def bt (b : Bool) : Tr := if b then .tt else .ff
def Tr.is (b : Bool) : Tr → Bool
  | .tt => b
  | .ff => !b
  | _ => false
theorem bt_ok (b : Bool) : (bt b).ok := by cases b <;> exact fun _ h => nomatch h
theorem dat_is (t : Tr) (b : Bool) : PyData.eqv (dat t) (dat (bt b)) = t.is b := by
  have e1 : ((Str.ofString "always" : Str) == "never") = false := by decide +kernel
  have e2 : ((Str.ofString "never" : Str) == "always") = false := by decide +kernel
  cases b <;> cases t <;> simp only [bt, dat, Tr.is, PyData.eqv, PyData.eqvAll, Bool.and_false, Bool.and_true, beq_self_eq_true, if_true, e1, e2, Bool.not_true, Bool.not_false, Bool.false_eq_true, if_false]
def joinT (w : Bool) (l r : Tr) : Tr := if (l.is (!w) || r.is (!w)) = true then bt (!w) else if l.is w = true then r else if r.is w = true then l else .con w l r
def sp_joined_tree (K : PySem.W.Frag) : Sp := fun vs H Q _ => ∃ (w : Bool) (x y : V) (l r : Tr), vs = [.str (wd w), x, y] ∧ TAt K H l x ∧ TAt K H r y ∧ l.ok ∧ r.ok ∧ l.depth < 40 ∧ r.depth < 40 ∧ ∀ (H' : Hp) (v : V), Same H H' → TAt K H' (joinT w l r) v → Q v H'
theorem len_joined_tree {vs : List V} {H : Hp} {Q : VK} {E : XK} (h : sp_joined_tree K vs H Q E) : vs.length = 3 := by
  obtain ⟨_, _, _, _, _, rfl, _⟩ := h
  rfl
theorem ok_joined_tree {f : Addr} {fd : FuncData} (F : Fun K "joined_tree" "joined_tree" s_joined_tree f fd) (T : Gs K mg t_BOUND t_DIGITS t_LETTERS t_LONGEST_INTEGER t_LONGEST_NAME t_MOST_NESTED a_ALWAYS a_MARKS a_NEVER a_OPPOSITES a_RESERVED a_SIGNS a_BadName a_BadNumber a_BadSign a_BadText a_Condition a_ElseputError a_Reader a_TooLarge) : FnOk P w K mg base CX0 1 f fd ["word", "left", "right"] (sp_joined_tree K) := by
  refine F.ok sc_joined_tree (fun vs H Q E h => len_joined_tree h) (fun cdv A outer s H vs Q E hr h => ?_)
  obtain ⟨w, x, y, l, r, rfl, hl, hr', lo, ro, ld, rd, q⟩ := h
  refine ⟨_, (pss_cons (ps_asg (pe_ifExp (pt_c (eqK K hr.units) (v_ 0) pe_str) (pe_tup (pa_cons (pe_glob (v := .ref a_NEVER) rfl T.g_NEVER rfl) (pa_cons (pe_glob (v := .ref a_ALWAYS) rfl T.g_ALWAYS rfl) pa_nil))) (pe_tup (pa_cons (pe_glob (v := .ref a_ALWAYS) rfl T.g_ALWAYS rfl) (pa_cons (pe_glob (v := .ref a_NEVER) rfl T.g_NEVER rfl) pa_nil)))) (pg_tup (by rfl) (pgs_cons (pg_name (i := 3) sc_joined_tree.nd rfl (.inl rfl)) (pgs_cons (pg_name (i := 4) sc_joined_tree.nd rfl (.inl rfl)) pgs_nil)))) (pss_cons (ps_if (PW.pt (pw_or (pt_c (eqK K hr.units) (v_ 1) (v_ 3)) (pw_or1 (pt_c (eqK K hr.units) (v_ 2) (v_ 3))))) (pss_one (ps_ret (v_ 3))) pss_nil) (pss_cons (ps_if (pt_c (eqK K hr.units) (v_ 1) (v_ 4)) (pss_one (ps_ret (v_ 2))) pss_nil) (pss_cons (ps_if (pt_c (eqK K hr.units) (v_ 2) (v_ 4)) (pss_one (ps_ret (v_ 1))) pss_nil) (pss_one (ps_ret (pe_tup (pa_cons (v_ 0) (pa_cons (v_ 1) (pa_cons (v_ 2) pa_nil)))))))))), ?_⟩
  have cA : ∀ H, TAt K H .tt (.ref a_ALWAYS) := fun H => ⟨_, rfl, T.q_ALWAYS H⟩
  have cN : ∀ H, TAt K H .ff (.ref a_NEVER) := fun H => ⟨_, rfl, T.q_NEVER H⟩
  obtain ⟨a, rfl⟩ := hl.ref
  obtain ⟨b, rfl⟩ := hr'.ref
  unfold joinT at q
  cases w with
  | true =>
    refine ⟨(by show 2 ≤ sizeLine; decide), fun t nt => ?_⟩
    have s1 := same_new (o := .tup [.ref a_NEVER, .ref a_ALWAYS]) nt
    have ht := upd_same (H := H) (a := t) (o := .tup [.ref a_NEVER, .ref a_ALWAYS])
    generalize upd H t (.tup [.ref a_NEVER, .ref a_ALWAYS]) = H1 at s1 ht ⊢
    replace hl := hl.same s1
    replace hr' := hr'.same s1
    refine ⟨t, [.ref a_NEVER, .ref a_ALWAYS], rfl, SqT.of ht, rfl, _, _, rfl, _, _, rfl, rfl, ?_⟩
    have sd := dat_shaped (bt_ok false) (by decide : (bt false).depth < 40)
    have si := dat_shaped (bt_ok true) (by decide : (bt true).depth < 40)
    refine ⟨_, _, hl.dp, (cN H1).dp, dat_shaped lo ld, sd, ?_⟩
    rw [show PyData.eqv (dat l) (dat .ff) = l.is false from dat_is l false]
    refine ite2 (fun e => ?_) (fun e => ?_)
    · have e : l.is false = true := e
      rw [if_pos (by rw [show (!true) = false from rfl, e]; rfl)] at q
      exact q _ _ s1 (cN H1)
    have e1 : l.is false = false := Bool.eq_false_iff.mpr e
    clear e
    refine ⟨_, _, hr'.dp, (cN H1).dp, dat_shaped ro rd, sd, ?_⟩
    rw [show PyData.eqv (dat r) (dat .ff) = r.is false from dat_is r false]
    refine ite2 (fun e => ?_) (fun e => ?_)
    · have e : r.is false = true := e
      rw [if_pos (by rw [show (!true) = false from rfl, e, Bool.or_true])] at q
      exact q _ _ s1 (cN H1)
    have e2 : r.is false = false := Bool.eq_false_iff.mpr e
    clear e
    rw [if_neg (by rw [show (!true) = false from rfl, e1, e2]; decide)] at q
    refine ⟨_, _, hl.dp, (cA H1).dp, dat_shaped lo ld, si, ?_⟩
    rw [show PyData.eqv (dat l) (dat .tt) = l.is true from dat_is l true]
    refine ite2 (fun e => ?_) (fun e => ?_)
    · have e : l.is true = true := e
      rw [if_pos e] at q
      exact q _ _ s1 hr'
    have e : ¬ l.is true = true := e
    rw [if_neg e] at q
    clear e
    refine ⟨_, _, hr'.dp, (cA H1).dp, dat_shaped ro rd, si, ?_⟩
    rw [show PyData.eqv (dat r) (dat .tt) = r.is true from dat_is r true]
    refine ite2 (fun e => ?_) (fun e => ?_)
    · have e : r.is true = true := e
      rw [if_pos e] at q
      exact q _ _ s1 hl
    have e : ¬ r.is true = true := e
    rw [if_neg e] at q
    refine ⟨(by show 3 ≤ sizeLine; decide), fun u nu => ?_⟩
    have su := same_new (o := .tup [.str (wd true), .ref a, .ref b]) nu
    exact q _ _ (s1.trans su) ⟨u, .ref a, .ref b, rfl, SqT.of upd_same, hl.same su, hr'.same su⟩
  | false =>
    refine ⟨(by show 2 ≤ sizeLine; decide), fun t nt => ?_⟩
    have s1 := same_new (o := .tup [.ref a_ALWAYS, .ref a_NEVER]) nt
    have ht := upd_same (H := H) (a := t) (o := .tup [.ref a_ALWAYS, .ref a_NEVER])
    generalize upd H t (.tup [.ref a_ALWAYS, .ref a_NEVER]) = H1 at s1 ht ⊢
    replace hl := hl.same s1
    replace hr' := hr'.same s1
    refine ⟨t, [.ref a_ALWAYS, .ref a_NEVER], rfl, SqT.of ht, rfl, _, _, rfl, _, _, rfl, rfl, ?_⟩
    have sd := dat_shaped (bt_ok true) (by decide : (bt true).depth < 40)
    have si := dat_shaped (bt_ok false) (by decide : (bt false).depth < 40)
    refine ⟨_, _, hl.dp, (cA H1).dp, dat_shaped lo ld, sd, ?_⟩
    rw [show PyData.eqv (dat l) (dat .tt) = l.is true from dat_is l true]
    refine ite2 (fun e => ?_) (fun e => ?_)
    · have e : l.is true = true := e
      rw [if_pos (by rw [show (!false) = true from rfl, e]; rfl)] at q
      exact q _ _ s1 (cA H1)
    have e1 : l.is true = false := Bool.eq_false_iff.mpr e
    clear e
    refine ⟨_, _, hr'.dp, (cA H1).dp, dat_shaped ro rd, sd, ?_⟩
    rw [show PyData.eqv (dat r) (dat .tt) = r.is true from dat_is r true]
    refine ite2 (fun e => ?_) (fun e => ?_)
    · have e : r.is true = true := e
      rw [if_pos (by rw [show (!false) = true from rfl, e, Bool.or_true])] at q
      exact q _ _ s1 (cA H1)
    have e2 : r.is true = false := Bool.eq_false_iff.mpr e
    clear e
    rw [if_neg (by rw [show (!false) = true from rfl, e1, e2]; decide)] at q
    refine ⟨_, _, hl.dp, (cN H1).dp, dat_shaped lo ld, si, ?_⟩
    rw [show PyData.eqv (dat l) (dat .ff) = l.is false from dat_is l false]
    refine ite2 (fun e => ?_) (fun e => ?_)
    · have e : l.is false = true := e
      rw [if_pos e] at q
      exact q _ _ s1 hr'
    have e : ¬ l.is false = true := e
    rw [if_neg e] at q
    clear e
    refine ⟨_, _, hr'.dp, (cN H1).dp, dat_shaped ro rd, si, ?_⟩
    rw [show PyData.eqv (dat r) (dat .ff) = r.is false from dat_is r false]
    refine ite2 (fun e => ?_) (fun e => ?_)
    · have e : r.is false = true := e
      rw [if_pos e] at q
      exact q _ _ s1 hl
    have e : ¬ r.is false = true := e
    rw [if_neg e] at q
    refine ⟨(by show 3 ≤ sizeLine; decide), fun u nu => ?_⟩
    have su := same_new (o := .tup [.str (wd false), .ref a, .ref b]) nu
    exact q _ _ (s1.trans su) ⟨u, .ref a, .ref b, rfl, SqT.of upd_same, hl.same su, hr'.same su⟩
end
section
variable {P : Program} {w : World} {K : PySem.W.Frag} {mg : Str → Option Value} {base : Heap}
variable {t_BOUND t_DIGITS t_LETTERS t_LONGEST_INTEGER t_LONGEST_NAME t_MOST_NESTED : Tok} {a_ALWAYS a_MARKS a_NEVER a_OPPOSITES a_RESERVED a_SIGNS a_BadName a_BadNumber a_BadSign a_BadText a_Condition a_ElseputError a_Reader a_TooLarge : Addr}
theorem bt_depth (b : Bool) : (bt b).depth = 0 := by cases b <;> rfl
theorem bt_cs (b : Bool) : (bt b).cs = [] := by cases b <;> rfl
theorem joinT_ok {w : Bool} {l r : Tr} (hl : l.ok) (hr : r.ok) : (joinT w l r).ok := by
  unfold joinT
  split
  · exact bt_ok _
  split
  · exact hr
  split
  · exact hl
  · exact fun c hc => by
      rcases List.mem_append.mp hc with h | h
      · exact hl c h
      · exact hr c h
theorem joinT_depth {w : Bool} {l r : Tr} : (joinT w l r).depth ≤ max l.depth r.depth + 1 := by
  unfold joinT
  split
  · rw [bt_depth]; omega
  split
  · omega
  split
  · omega
  · exact Nat.le_refl _
theorem joinT_cs {w : Bool} {l r : Tr} : (joinT w l r).cs.length ≤ l.cs.length + r.cs.length := by
  unfold joinT
  split
  · rw [bt_cs]; exact Nat.zero_le _
  split
  · omega
  split
  · omega
  · show (l.cs ++ r.cs).length ≤ _
    rw [List.length_append]
    omega
/-- trees that conditions have here -/
structure Gd (t : Tr) : Prop where
  ok : t.ok
  dp : t.depth ≤ 9
  cs : t.cs.length ≤ 9
def BigO (K : PySem.W.Frag) (H : Hp) (E : XK) : Prop := ∀ (C d : Addr) (H' : Hp), PySem.W.nsIn K mainGlobals "TooLarge" = some (some (.ref C)) → Same H H' → H d = none → H' d = some (.xd [("most", .int 8)]) → E (.ref C) (some d) H'
theorem BigO.same {K : PySem.W.Frag} {H H1 : Hp} {E : XK} (h : BigO K H E) (s : Same H H1) : BigO K H1 E := fun C d H' hC s2 nd hd => h C d H' hC (s.trans s2) (Same.free s nd) hd
def JoinO (K : PySem.W.Frag) (H : Hp) (w : Bool) (l r : Tr) (Q : VK) (E : XK) : Prop := if (joinT w l r).cs.length ≤ 8 then ∀ (H' : Hp) (c : Addr), Same H H' → H c = none → CnAt K H' c (joinT w l r) → Q (.ref c) H' else BigO K H E
def sp_joined (K : PySem.W.Frag) : Sp := fun vs H Q E => ∃ (w : Bool) (a b : Addr) (l r : Tr), vs = [.str (wd w), .ref a, .ref b] ∧ CnAt K H a l ∧ CnAt K H b r ∧ Gd l ∧ Gd r ∧ JoinO K H w l r Q E
theorem len_joined {vs : List V} {H : Hp} {Q : VK} {E : XK} (h : sp_joined K vs H Q E) : vs.length = 3 := by
  obtain ⟨_, _, _, _, _, rfl, _⟩ := h
  rfl
theorem ok_joined {f : Addr} {fd : FuncData} {f_joined_tree : Addr} {fd_joined_tree : FuncData} {f_comparisons : Addr} {fd_comparisons : FuncData} {f_Condition___init__ : Addr} {fd_Condition___init__ : FuncData} {f_TooLarge : Addr} {fd_TooLarge : FuncData} (F : Fun K "joined" "joined" s_joined f fd) (T : Gs K mg t_BOUND t_DIGITS t_LETTERS t_LONGEST_INTEGER t_LONGEST_NAME t_MOST_NESTED a_ALWAYS a_MARKS a_NEVER a_OPPOSITES a_RESERVED a_SIGNS a_BadName a_BadNumber a_BadSign a_BadText a_Condition a_ElseputError a_Reader a_TooLarge) (c_joined_tree : Cal P w K mg base CX0 1 "joined_tree" f_joined_tree fd_joined_tree ["word", "left", "right"] (sp_joined_tree K)) (c_comparisons : Cal P w K mg base CX0 22 "comparisons" f_comparisons fd_comparisons ["tree"] (sp_comparisons K)) (c_Condition___init__ : CalI P w K mg base CX0 23 "Condition" a_Condition f_Condition___init__ fd_Condition___init__ ["self", "tree"] (sp_Condition___init__ K)) (c_TooLarge : CalE P w K mg base 1 "TooLarge" a_TooLarge f_TooLarge fd_TooLarge ["self", "most"] okx_TooLarge fs_TooLarge ["most"]) : FnOk P w K mg base (L2.CX P w) 25 f fd ["word", "left", "right"] (sp_joined K) := by
  refine F.okX sc_joined (fun vs H Q E h => len_joined h) (fun cdv A outer s H vs Q E hr h => ?_)
  obtain ⟨w, a, b, l, r, rfl, hA, hB, gl, gr, q⟩ := h
  obtain ⟨C, dx, u, x, ss, hC, ha, hx, _⟩ := id hA
  cases hC.symm.trans T.n_Condition
  obtain ⟨C, dy, u2, y, ss2, hC, hb, hy, _⟩ := id hB
  cases hC.symm.trans T.n_Condition
  have g1 := gl.dp
  have g2 := gr.dp
  have g3 := gl.cs
  have g4 := gr.cs
  have jd : (joinT w l r).depth ≤ max l.depth r.depth + 1 := joinT_depth
  have jc : (joinT w l r).cs.length ≤ l.cs.length + r.cs.length := joinT_cs
  unfold JoinO at q
  refine ⟨_, (pss_cons (ps_set (i := 3) sc_joined.nd rfl (.inl rfl) (pe_call c_joined_tree.G (hr.mono (by first | decide | omega)) rfl c_joined_tree.m c_joined_tree.kp c_joined_tree.b .nil pass0 (pa_cons (v_ 0) (pa_cons (e_f K (v_ 1)) (pa_cons (e_f K (v_ 2)) pa_nil))))) (pss_cons (ps_if (pt_c op_gtM (pe_callB (lenK K) (by rfl) T.z_len PySem.boot_len (pa_cons (pe_call c_comparisons.G (hr.mono (by first | decide | omega)) rfl c_comparisons.m c_comparisons.kp c_comparisons.b .nil pass0 (pa_cons (v_ 3) pa_nil)) pa_nil)) (e_cv K (pe_glob (v := .ref a_Condition) rfl T.g_Condition rfl))) (pss_one (ps_raise rfl (takes_of rfl rfl rfl rfl) (pmk_oex c_TooLarge.X.oex c_TooLarge.X.iC c_TooLarge.X.tI c_TooLarge.G (hr.mono (by first | decide | omega)) c_TooLarge.b .nil pass0 rfl c_TooLarge.m (pa_cons (e_cv K (pe_glob (v := .ref a_Condition) rfl T.g_Condition rfl)) pa_nil)))) pss_nil) (pss_one (ps_ret (pe_make c_Condition___init__.mkc c_Condition___init__.G (hr.mono (by first | decide | omega)) rfl c_Condition___init__.m c_Condition___init__.b .nil pass0 (pa_cons (v_ 3) pa_nil)))))), ?_⟩
  refine ⟨a, a_Condition, dx, _, _, rfl, ha, T.cl_Condition, T.na_Condition_tree, rfl, b, a_Condition, dy, _, _, rfl, hb, T.cl_Condition, T.na_Condition_tree, rfl, ?_⟩
  refine ⟨w, x, y, l, r, rfl, hx, hy, gl.ok, gr.ok, by omega, by omega, fun H1 v s1 hv => ?_⟩
  generalize joinT w l r = j at q jd jc hv
  refine ⟨v, j, rfl, hv, by omega, by omega, fun H2 D xs s2 nD hD hxs => ?_⟩
  refine .inl ⟨_, .inl (SqL.of hD), ?_⟩
  obtain ⟨mu, hmu⟩ := T.cv_Condition_MOST
  refine ⟨a_Condition, _, _, _, rfl, T.rd_Condition, hmu, ?_⟩
  rw [hxs.1]
  have s12 := s1.trans s2
  refine ite2 (fun e => ?_) (fun e => ?_)
  · have e : ¬ j.cs.length ≤ 8 := by
      have e : (8 : Int) < (j.cs.length : Int) := of_decide_eq_true e
      omega
    rw [if_neg e] at q
    refine ⟨a_Condition, _, _, _, rfl, T.rd_Condition, hmu, ?_⟩
    refine mk_spE (by show 1 ≤ 1000; decide) ⟨8, rfl, by decide, by decide⟩ (fun d nd => ?_)
    exact q a_TooLarge d _ T.n_TooLarge (s12.trans (same_new nd)) (Same.free s12 nd) upd_same
  · have e : j.cs.length ≤ 8 := by
      have e : ¬ (8 : Int) < (j.cs.length : Int) := of_decide_eq_false (Bool.eq_false_iff.mpr e)
      omega
    rw [if_pos e] at q
    intro c dc nc ndc nec
    have sk := same_mk (C := a_Condition) nc ndc
    refine ⟨c, a_Condition, dc, v, j, rfl, T.n_Condition, upd_same, (hv.same s2).same sk, by omega, by omega, fun H3 bt hA => ⟨rfl, ?_⟩⟩
    have s3 : Same H2 H3 := fun c o hc => bt c o (ne_of_none hc nc) (sk _ _ hc)
    exact q H3 c (s12.trans s3) (Same.free s12 nc) hA
def sp_Condition___and__ (K : PySem.W.Frag) : Sp := fun vs H Q E => ∃ (a b : Addr) (l r : Tr), vs = [.ref a, .ref b] ∧ CnAt K H a l ∧ CnAt K H b r ∧ Gd l ∧ Gd r ∧ JoinO K H true l r Q E
theorem len_Condition___and__ {vs : List V} {H : Hp} {Q : VK} {E : XK} (h : sp_Condition___and__ K vs H Q E) : vs.length = 2 := by
  obtain ⟨_, _, _, _, rfl, _⟩ := h
  rfl
theorem ok_Condition___and__ {f : Addr} {fd : FuncData} {f_joined : Addr} {fd_joined : FuncData} (F : Fun K "__and__" "Condition.__and__" s_Condition___and__ f fd) (T : Gs K mg t_BOUND t_DIGITS t_LETTERS t_LONGEST_INTEGER t_LONGEST_NAME t_MOST_NESTED a_ALWAYS a_MARKS a_NEVER a_OPPOSITES a_RESERVED a_SIGNS a_BadName a_BadNumber a_BadSign a_BadText a_Condition a_ElseputError a_Reader a_TooLarge) (c_joined : Cal P w K mg base (L2.CX P w) 25 "joined" f_joined fd_joined ["word", "left", "right"] (sp_joined K)) : FnOk P w K mg base (L2.CX P w) 26 f fd ["self", "other"] (sp_Condition___and__ K) := by
  refine F.okX sc_Condition___and__ (fun vs H Q E h => len_Condition___and__ h) (fun cdv A outer s H vs Q E hr h => ?_)
  obtain ⟨a, b, l, r, rfl, h1, h2, h3, h4, q⟩ := h
  exact ⟨_, (pss_one (ps_ret (pe_call c_joined.G (hr.mono (by first | decide | omega)) rfl c_joined.m c_joined.kp c_joined.b .nil (passes_call (takes_of rfl rfl rfl rfl) (fun _ _ _ _ h => h)) (pa_cons pe_str (pa_cons (v_ 0) (pa_cons (v_ 1) pa_nil)))))), true, a, b, l, r, rfl, h1, h2, h3, h4, q⟩
def sp_Condition___or__ (K : PySem.W.Frag) : Sp := fun vs H Q E => ∃ (a b : Addr) (l r : Tr), vs = [.ref a, .ref b] ∧ CnAt K H a l ∧ CnAt K H b r ∧ Gd l ∧ Gd r ∧ JoinO K H false l r Q E
theorem len_Condition___or__ {vs : List V} {H : Hp} {Q : VK} {E : XK} (h : sp_Condition___or__ K vs H Q E) : vs.length = 2 := by
  obtain ⟨_, _, _, _, rfl, _⟩ := h
  rfl
theorem ok_Condition___or__ {f : Addr} {fd : FuncData} {f_joined : Addr} {fd_joined : FuncData} (F : Fun K "__or__" "Condition.__or__" s_Condition___or__ f fd) (T : Gs K mg t_BOUND t_DIGITS t_LETTERS t_LONGEST_INTEGER t_LONGEST_NAME t_MOST_NESTED a_ALWAYS a_MARKS a_NEVER a_OPPOSITES a_RESERVED a_SIGNS a_BadName a_BadNumber a_BadSign a_BadText a_Condition a_ElseputError a_Reader a_TooLarge) (c_joined : Cal P w K mg base (L2.CX P w) 25 "joined" f_joined fd_joined ["word", "left", "right"] (sp_joined K)) : FnOk P w K mg base (L2.CX P w) 26 f fd ["self", "other"] (sp_Condition___or__ K) := by
  refine F.okX sc_Condition___or__ (fun vs H Q E h => len_Condition___or__ h) (fun cdv A outer s H vs Q E hr h => ?_)
  obtain ⟨a, b, l, r, rfl, h1, h2, h3, h4, q⟩ := h
  exact ⟨_, (pss_one (ps_ret (pe_call c_joined.G (hr.mono (by first | decide | omega)) rfl c_joined.m c_joined.kp c_joined.b .nil (passes_call (takes_of rfl rfl rfl rfl) (fun _ _ _ _ h => h)) (pa_cons pe_str (pa_cons (v_ 0) (pa_cons (v_ 1) pa_nil)))))), false, a, b, l, r, rfl, h1, h2, h3, h4, q⟩
def sp_Condition_always (K : PySem.W.Frag) : Sp := fun vs H Q _ => vs = [] ∧ ∀ (H' : Hp) (c : Addr), Same H H' → H c = none → CnAt K H' c .tt → Q (.ref c) H'
theorem len_Condition_always {vs : List V} {H : Hp} {Q : VK} {E : XK} (h : sp_Condition_always K vs H Q E) : vs.length = 0 := by
  obtain ⟨rfl, _⟩ := h
  rfl
theorem ok_Condition_always {f : Addr} {fd : FuncData} {f_Condition___init__ : Addr} {fd_Condition___init__ : FuncData} (F : Fun K "always" "Condition.always" s_Condition_always f fd) (T : Gs K mg t_BOUND t_DIGITS t_LETTERS t_LONGEST_INTEGER t_LONGEST_NAME t_MOST_NESTED a_ALWAYS a_MARKS a_NEVER a_OPPOSITES a_RESERVED a_SIGNS a_BadName a_BadNumber a_BadSign a_BadText a_Condition a_ElseputError a_Reader a_TooLarge) (c_Condition___init__ : CalI P w K mg base CX0 23 "Condition" a_Condition f_Condition___init__ fd_Condition___init__ ["self", "tree"] (sp_Condition___init__ K)) : FnOk P w K mg base CX0 25 f fd [] (sp_Condition_always K) := by
  refine F.ok sc_Condition_always (fun vs H Q E h => len_Condition_always h) (fun cdv A outer s H vs Q E hr h => ?_)
  obtain ⟨rfl, q⟩ := h
  refine ⟨_, (pss_one (ps_ret (pe_make c_Condition___init__.mkc c_Condition___init__.G (hr.mono (by first | decide | omega)) rfl c_Condition___init__.m c_Condition___init__.b .nil pass0 (pa_cons (pe_glob (v := .ref a_ALWAYS) rfl T.g_ALWAYS rfl) pa_nil)))), ?_⟩
  intro c dc nc ndc nec
  have sk := same_mk (C := a_Condition) nc ndc
  refine ⟨c, a_Condition, dc, _, .tt, rfl, T.n_Condition, upd_same, ⟨_, rfl, T.q_ALWAYS _⟩, by decide, by decide, fun H3 bt hA => ⟨rfl, ?_⟩⟩
  exact q H3 c (fun c o hc => bt c o (ne_of_none hc nc) (sk _ _ hc)) nc hA
def sp_Condition_never (K : PySem.W.Frag) : Sp := fun vs H Q _ => vs = [] ∧ ∀ (H' : Hp) (c : Addr), Same H H' → H c = none → CnAt K H' c .ff → Q (.ref c) H'
theorem len_Condition_never {vs : List V} {H : Hp} {Q : VK} {E : XK} (h : sp_Condition_never K vs H Q E) : vs.length = 0 := by
  obtain ⟨rfl, _⟩ := h
  rfl
theorem ok_Condition_never {f : Addr} {fd : FuncData} {f_Condition___init__ : Addr} {fd_Condition___init__ : FuncData} (F : Fun K "never" "Condition.never" s_Condition_never f fd) (T : Gs K mg t_BOUND t_DIGITS t_LETTERS t_LONGEST_INTEGER t_LONGEST_NAME t_MOST_NESTED a_ALWAYS a_MARKS a_NEVER a_OPPOSITES a_RESERVED a_SIGNS a_BadName a_BadNumber a_BadSign a_BadText a_Condition a_ElseputError a_Reader a_TooLarge) (c_Condition___init__ : CalI P w K mg base CX0 23 "Condition" a_Condition f_Condition___init__ fd_Condition___init__ ["self", "tree"] (sp_Condition___init__ K)) : FnOk P w K mg base CX0 25 f fd [] (sp_Condition_never K) := by
  refine F.ok sc_Condition_never (fun vs H Q E h => len_Condition_never h) (fun cdv A outer s H vs Q E hr h => ?_)
  obtain ⟨rfl, q⟩ := h
  refine ⟨_, (pss_one (ps_ret (pe_make c_Condition___init__.mkc c_Condition___init__.G (hr.mono (by first | decide | omega)) rfl c_Condition___init__.m c_Condition___init__.b .nil pass0 (pa_cons (pe_glob (v := .ref a_NEVER) rfl T.g_NEVER rfl) pa_nil)))), ?_⟩
  intro c dc nc ndc nec
  have sk := same_mk (C := a_Condition) nc ndc
  refine ⟨c, a_Condition, dc, _, .ff, rfl, T.n_Condition, upd_same, ⟨_, rfl, T.q_NEVER _⟩, by decide, by decide, fun H3 bt hA => ⟨rfl, ?_⟩⟩
  exact q H3 c (fun c o hc => bt c o (ne_of_none hc nc) (sk _ _ hc)) nc hA
theorem bd_small {i : Int} (h : Bd i) : i.natAbs < 2 ^ 200 := by
  have e : (2 : Nat) ^ 200 = 1606938044258990275541962092341162602522202993782792835301376 := by decide +kernel
  rw [e]
  unfold Bd at h
  omega
theorem inB_of {i : Int} (h : Bd i) : inB i = true := by
  unfold inB
  rw [decide_eq_true h.1, decide_eq_true h.2]
  rfl
def sp_Condition_compare (K : PySem.W.Frag) : Sp := fun vs H Q _ => ∃ (f s : Str) (n : Int), vs = [.str f, .str s, .int n] ∧ (Tr.cmp f s n).ok ∧ ∀ (H' : Hp) (a : Addr), Same H H' → H a = none → CnAt K H' a (.cmp f s n) → Q (.ref a) H'
theorem len_Condition_compare {vs : List V} {H : Hp} {Q : VK} {E : XK} (h : sp_Condition_compare K vs H Q E) : vs.length = 3 := by
  obtain ⟨_, _, _, rfl, _⟩ := h
  rfl
theorem ok_Condition_compare {f : Addr} {fd : FuncData} {f_check_name : Addr} {fd_check_name : FuncData} {f_check_number : Addr} {fd_check_number : FuncData} {f_Condition___init__ : Addr} {fd_Condition___init__ : FuncData} {f_BadSign : Addr} {fd_BadSign : FuncData} (F : Fun K "compare" "Condition.compare" s_Condition_compare f fd) (T : Gs K mg t_BOUND t_DIGITS t_LETTERS t_LONGEST_INTEGER t_LONGEST_NAME t_MOST_NESTED a_ALWAYS a_MARKS a_NEVER a_OPPOSITES a_RESERVED a_SIGNS a_BadName a_BadNumber a_BadSign a_BadText a_Condition a_ElseputError a_Reader a_TooLarge) (c_check_name : Cal P w K mg base (L2.CX P w) 3 "check_name" f_check_name fd_check_name ["text"] (sp_check_name K)) (c_check_number : Cal P w K mg base (L2.CX P w) 3 "check_number" f_check_number fd_check_number ["value"] (sp_check_number K)) (c_Condition___init__ : CalI P w K mg base CX0 23 "Condition" a_Condition f_Condition___init__ fd_Condition___init__ ["self", "tree"] (sp_Condition___init__ K)) (c_BadSign : CalE P w K mg base 1 "BadSign" a_BadSign f_BadSign fd_BadSign ["self", "sign"] okx_BadSign fs_BadSign ["sign"]) : FnOk P w K mg base (L2.CX P w) 25 f fd ["field", "sign", "number"] (sp_Condition_compare K) := by
  refine F.okX sc_Condition_compare (fun vs H Q E h => len_Condition_compare h) (fun cdv A outer s H vs Q E hr h => ?_)
  obtain ⟨f, s, n, rfl, ho, q⟩ := h
  obtain ⟨hf, hs, hn⟩ := ho (f, s, n) (List.mem_singleton.mpr rfl)
  have hf : isName f = true := hf
  have hs : s ∈ signs := hs
  have hn : Bd n := hn
  have f1 : f.length ≤ 1000 := by have := (isName_mem hf).2.2.1; omega
  refine ⟨_, (pss_cons (ps_expr (pe_call c_check_name.G (hr.mono (by first | decide | omega)) rfl c_check_name.m c_check_name.kp c_check_name.b .nil (passes_call (takes_of rfl rfl rfl rfl) (fun _ _ _ _ h => h)) (pa_cons (v_ 0) pa_nil))) (pss_cons (ps_if (pt_c (notInK K) (v_ 1) (pe_glob (v := .ref a_SIGNS) rfl T.g_SIGNS rfl)) (pss_one (ps_raise rfl (takes_of rfl rfl rfl rfl) (pmk_oex c_BadSign.X.oex c_BadSign.X.iC c_BadSign.X.tI c_BadSign.G (hr.mono (by first | decide | omega)) c_BadSign.b .nil pass0 rfl c_BadSign.m (pa_cons (v_ 1) pa_nil)))) pss_nil) (pss_cons (ps_expr (pe_call c_check_number.G (hr.mono (by first | decide | omega)) rfl c_check_number.m c_check_number.kp c_check_number.b .nil (passes_call (takes_of rfl rfl rfl rfl) (fun _ _ _ _ h => h)) (pa_cons (v_ 2) pa_nil))) (pss_one (ps_ret (pe_make c_Condition___init__.mkc c_Condition___init__.G (hr.mono (by first | decide | omega)) rfl c_Condition___init__.m c_Condition___init__.b .nil pass0 (pa_cons (pe_tup (pa_cons pe_str (pa_cons (v_ 0) (pa_cons (v_ 1) (pa_cons (v_ 2) pa_nil))))) pa_nil))))))), ?_⟩
  refine ⟨f, rfl, f1, isName_asc hf, ?_⟩
  rw [if_pos hf]
  intro H1 sm
  refine ⟨_, .inr (T.q_SIGNS _), rfl, rfl, ?_⟩
  refine ite2 (fun e => ?_) (fun _ => ?_)
  · exfalso
    have e : (!inV (.str s) (signs.map V.str)) = true := e
    rw [inV_str, decide_eq_true hs] at e
    cases e
  refine ⟨n, rfl, bd_small hn, ?_⟩
  rw [if_pos (inB_of hn)]
  refine ⟨(by show 4 ≤ sizeLine; decide), fun t nt => ?_⟩
  have st := same_new (o := .tup [.str "compare", .str f, .str s, .int n]) nt
  have ht := upd_same (H := H1) (a := t) (o := .tup [.str "compare", .str f, .str s, .int n])
  generalize upd H1 t (.tup [.str "compare", .str f, .str s, .int n]) = H2 at st ht ⊢
  intro a da na nda nea
  have sk := same_mk (C := a_Condition) na nda
  refine ⟨a, a_Condition, da, _, .cmp f s n, rfl, T.n_Condition, upd_same, ⟨t, rfl, SqT.of (sk _ _ ht)⟩, (by show 0 < 20; decide), (by show 1 ≤ 50; decide), fun H3 b hA => ⟨rfl, ?_⟩⟩
  have s3 : Same H2 H3 := fun c o hc => b c o (ne_of_none hc na) (sk _ _ hc)
  exact q H3 a ((sm.trans st).trans s3) (Same.free (sm.trans st) na) hA
end
section
variable {P : Program} {w : World} {K : PySem.W.Frag} {mg : Str → Option Value} {base : Heap}
variable {t_BOUND t_DIGITS t_LETTERS t_LONGEST_INTEGER t_LONGEST_NAME t_MOST_NESTED : Tok} {a_ALWAYS a_MARKS a_NEVER a_OPPOSITES a_RESERVED a_SIGNS a_BadName a_BadNumber a_BadSign a_BadText a_Condition a_ElseputError a_Reader a_TooLarge : Addr}
/-! ### opposites -/
abbrev oppL : List (Str × Str) := [("<", ">="), (">=", "<"), ("<=", ">"), (">", "<="), ("==", "!="), ("!=", "==")]
def oppS (s : Str) : Str := ((oppL.find? fun p => decide (p.1 = s)).map (·.2)).getD "=="
theorem oppS_mem : ∀ s ∈ signs, (s, oppS s) ∈ oppL ∧ oppS s ∈ signs ∧ oppS (oppS s) = s := by decide +kernel
def oppT : Tr → Tr
  | .tt => .ff
  | .ff => .tt
  | .cmp f s n => .cmp f (oppS s) n
  | .con w l r => .con (!w) (oppT l) (oppT r)
theorem oppT_cs : ∀ t : Tr, (oppT t).cs = t.cs.map fun c => (c.1, oppS c.2.1, c.2.2)
  | .tt => rfl
  | .ff => rfl
  | .cmp _ _ _ => rfl
  | .con _ l r => by
    show (oppT l).cs ++ (oppT r).cs = (l.cs ++ r.cs).map _
    rw [oppT_cs l, oppT_cs r, List.map_append]
theorem oppT_depth : ∀ t : Tr, (oppT t).depth = t.depth
  | .tt => rfl
  | .ff => rfl
  | .cmp _ _ _ => rfl
  | .con _ l r => by
    show max (oppT l).depth (oppT r).depth + 1 = max l.depth r.depth + 1
    rw [oppT_depth l, oppT_depth r]
theorem oppT_ok {t : Tr} (h : t.ok) : (oppT t).ok := fun c hc => by
  rw [oppT_cs] at hc
  obtain ⟨d, hd, rfl⟩ := List.mem_map.mp hc
  obtain ⟨h1, h2, h3⟩ := h d hd
  exact ⟨h1, (oppS_mem _ h2).2.1, h3⟩
theorem oppT_flds (t : Tr) : (oppT t).flds = t.flds := by
  unfold Tr.flds
  rw [oppT_cs, List.map_map]
  rfl
theorem oppT_opp : ∀ {t : Tr}, t.ok → oppT (oppT t) = t
  | .tt, _ => rfl
  | .ff, _ => rfl
  | .cmp f s n, h => by
    obtain ⟨_, h2, _⟩ := h (f, s, n) (List.mem_singleton.mpr rfl)
    show Tr.cmp f (oppS (oppS s)) n = _
    rw [(oppS_mem s h2).2.2]
  | .con w l r, h => by
    show Tr.con (!!w) (oppT (oppT l)) (oppT (oppT r)) = _
    rw [oppT_opp h.l, oppT_opp h.r, Bool.not_not]
theorem oppT_gd {t : Tr} (h : Gd t) : Gd (oppT t) := ⟨oppT_ok h.ok, by rw [oppT_depth]; exact h.dp, by rw [oppT_cs, List.length_map]; exact h.cs⟩
def spOpp (n : Nat) : PySem.W.Frag → Sp := fun K vs H Q _ => ∃ (v : V) (t : Tr), vs = [v] ∧ TAt K H t v ∧ t.depth < n ∧ t.depth < 40 ∧ t.ok ∧ ∀ (H' : Hp) (u : V), Same H H' → TAt K H' (oppT t) u → Q u H'
theorem len_opp {n : Nat} {vs : List V} {H : Hp} {Q : VK} {E : XK} (h : spOpp n K vs H Q E) : vs.length = 1 := by
  obtain ⟨_, _, rfl, _⟩ := h
  rfl
theorem opp_step {n k : Nat} {f : Addr} {fd : FuncData} (F : Fun K "opposite" "opposite" s_opposite f fd) (T : Gs K mg t_BOUND t_DIGITS t_LETTERS t_LONGEST_INTEGER t_LONGEST_NAME t_MOST_NESTED a_ALWAYS a_MARKS a_NEVER a_OPPOSITES a_RESERVED a_SIGNS a_BadName a_BadNumber a_BadSign a_BadText a_Condition a_ElseputError a_Reader a_TooLarge) (kd : ∀ p ∈ oppL, KDct K w a_OPPOSITES p.1 (.str p.2))
    (c_opposite : Cal P w K mg base CX0 k "opposite" f fd ["tree"] (spOpp n K)) (hk : 1 ≤ k) : FnOk P w K mg base CX0 (k + 1) f fd ["tree"] (spOpp (n + 1) K) := by
  refine F.ok sc_opposite (fun vs H Q E h => len_opp h) (fun cdv A outer s H vs Q E hr h => ?_)
  obtain ⟨v, t, rfl, ht, hd, h40, hok, q⟩ := h
  refine ⟨_, (pss_cons (ps_if (pt_c (eqK K hr.units) (v_ 0) (pe_glob (v := .ref a_ALWAYS) rfl T.g_ALWAYS rfl)) (pss_one (ps_ret (pe_glob (v := .ref a_NEVER) rfl T.g_NEVER rfl))) pss_nil) (pss_cons (ps_if (pt_c (eqK K hr.units) (v_ 0) (pe_glob (v := .ref a_NEVER) rfl T.g_NEVER rfl)) (pss_one (ps_ret (pe_glob (v := .ref a_ALWAYS) rfl T.g_ALWAYS rfl))) pss_nil) (pss_cons (ps_if (pt_c (eqK K hr.units) (e_x K (v_ 0) pe_int) pe_str) (pss_one (ps_ret (pe_tup (pa_cons pe_str (pa_cons (e_x K (v_ 0) pe_int) (pa_cons (e_xD K w (pe_glob (v := .ref a_OPPOSITES) rfl T.g_OPPOSITES rfl) (e_x K (v_ 0) pe_int)) (pa_cons (e_x K (v_ 0) pe_int) pa_nil))))))) pss_nil) (pss_cons (ps_set (i := 1) sc_opposite.nd rfl (.inl rfl) (pe_ifExp (pt_c (eqK K hr.units) (e_x K (v_ 0) pe_int) pe_str) pe_str pe_str)) (pss_one (ps_ret (pe_tup (pa_cons (v_ 1) (pa_cons (pe_call c_opposite.G (hr.mono (by first | decide | omega)) rfl c_opposite.m c_opposite.kp c_opposite.b .nil pass0 (pa_cons (e_x K (v_ 0) pe_int) pa_nil)) (pa_cons (pe_call c_opposite.G (hr.mono (by first | decide | omega)) rfl c_opposite.m c_opposite.kp c_opposite.b .nil pass0 (pa_cons (e_x K (v_ 0) pe_int) pa_nil)) pa_nil)))))))))), ?_⟩
  have cA : ∀ H, TAt K H .tt (.ref a_ALWAYS) := fun H => ⟨_, rfl, T.q_ALWAYS H⟩
  have cN : ∀ H, TAt K H .ff (.ref a_NEVER) := fun H => ⟨_, rfl, T.q_NEVER H⟩
  obtain ⟨a, rfl⟩ := ht.ref
  have sA := dat_shaped (bt_ok true) (by decide : (bt true).depth < 40)
  have sN := dat_shaped (bt_ok false) (by decide : (bt false).depth < 40)
  refine ⟨_, _, ht.dp, (cA H).dp, dat_shaped hok h40, sA, ?_⟩
  rw [show PyData.eqv (dat t) (dat .tt) = t.is true from dat_is t true]
  cases t with
  | tt => exact q _ _ (Same.refl _) (cN H)
  | ff =>
    refine ⟨_, _, ht.dp, (cN H).dp, dat_shaped hok h40, sN, ?_⟩
    rw [show PyData.eqv (dat .ff) (dat .ff) = true from dat_is .ff false]
    exact q _ _ (Same.refl _) (cA H)
  | cmp g s m =>
    refine ⟨_, _, ht.dp, (cN H).dp, dat_shaped hok h40, sN, ?_⟩
    rw [show PyData.eqv (dat (.cmp g s m)) (dat .ff) = false from dat_is (.cmp g s m) false]
    obtain ⟨a', e, ha⟩ := ht
    cases e
    obtain ⟨_, hs, _⟩ := hok (g, s, m) (List.mem_singleton.mpr rfl)
    have hs : s ∈ signs := hs
    have i2 : atI [V.str "compare", .str g, .str s, .int m] (2 : Int) = some (.str s) := rfl
    have i3 : atI [V.str "compare", .str g, .str s, .int m] (3 : Int) = some (.int m) := rfl
    refine ⟨_, .inr ha, .str "compare", rfl, ?_⟩
    refine ⟨_, .inr ha, .str g, rfl, _, .inr ha, .str s, i2, a_OPPOSITES, s, .str (oppS s), rfl, rfl, kd _ (oppS_mem s hs).1, _, .inr ha, .int m, i3, ?_⟩
    refine ⟨(by show 4 ≤ sizeLine; decide), fun u nu => ?_⟩
    exact q _ _ (same_new nu) ⟨u, rfl, SqT.of upd_same⟩
  | con w' l r =>
    refine ⟨_, _, ht.dp, (cN H).dp, dat_shaped hok h40, sN, ?_⟩
    rw [show PyData.eqv (dat (.con w' l r)) (dat .ff) = false from dat_is (.con w' l r) false]
    obtain ⟨a', x, y, e, ha, hx, hy⟩ := ht
    cases e
    have i1 : atI [V.str (wd w'), x, y] (1 : Int) = some x := rfl
    have i2 : atI [V.str (wd w'), x, y] (2 : Int) = some y := rfl
    have dd : max l.depth r.depth + 1 < n + 1 := hd
    have d40 : max l.depth r.depth + 1 < 40 := h40
    refine ⟨_, .inr ha, .str (wd w'), rfl, ?_⟩
    refine ite2 (fun e => ?_) (fun _ => ?_)
    · cases w' <;> exact absurd e (by decide +kernel)
    refine ⟨_, .inr ha, .str (wd w'), rfl, ?_⟩
    cases w' with
    | true =>
      refine ⟨_, .inr ha, x, i1, x, l, rfl, hx, by omega, by omega, hok.l, fun H1 x' s1 hx' => ?_⟩
      refine ⟨_, .inr (SqT.same ha s1), y, i2, y, r, rfl, hy.same s1, by omega, by omega, hok.r, fun H2 y' s2 hy' => ?_⟩
      refine ⟨(by show 3 ≤ sizeLine; decide), fun u nu => ?_⟩
      have su := same_new (o := .tup [.str "or", x', y']) nu
      exact q _ _ ((s1.trans s2).trans su) ⟨u, x', y', rfl, SqT.of upd_same, (hx'.same s2).same su, hy'.same su⟩
    | false =>
      refine ⟨_, .inr ha, x, i1, x, l, rfl, hx, by omega, by omega, hok.l, fun H1 x' s1 hx' => ?_⟩
      refine ⟨_, .inr (SqT.same ha s1), y, i2, y, r, rfl, hy.same s1, by omega, by omega, hok.r, fun H2 y' s2 hy' => ?_⟩
      refine ⟨(by show 3 ≤ sizeLine; decide), fun u nu => ?_⟩
      have su := same_new (o := .tup [.str "and", x', y']) nu
      exact q _ _ ((s1.trans s2).trans su) ⟨u, x', y', rfl, SqT.of upd_same, (hx'.same s2).same su, hy'.same su⟩
theorem opp_all {f : Addr} {fd : FuncData} (F : Fun K "opposite" "opposite" s_opposite f fd) (T : Gs K mg t_BOUND t_DIGITS t_LETTERS t_LONGEST_INTEGER t_LONGEST_NAME t_MOST_NESTED a_ALWAYS a_MARKS a_NEVER a_OPPOSITES a_RESERVED a_SIGNS a_BadName a_BadNumber a_BadSign a_BadText a_Condition a_ElseputError a_Reader a_TooLarge) (kd : ∀ p ∈ oppL, KDct K w a_OPPOSITES p.1 (.str p.2))
    (b : Binds K fd ["tree"] []) (kp : PySem.W.keepIn K (.ref f) = true) (m : mg "opposite" = some (.ref f)) : ∀ n : Nat, FnOk P w K mg base CX0 (n + 2) f fd ["tree"] (spOpp n K)
  | 0 => ⟨fun _ _ _ _ h => len_opp h, by
    intro A outer s H args us vs Q E _ _ _ _ h
    obtain ⟨_, _, _, _, h, _⟩ := h
    exact absurd h (Nat.not_lt_zero _)⟩
  | n + 1 => opp_step F T kd ⟨opp_all F T kd b kp m n, b, kp, m⟩ (by omega)
def sp_opposite : PySem.W.Frag → Sp := spOpp 20
theorem ok_opposite {f : Addr} {fd : FuncData} (F : Fun K "opposite" "opposite" s_opposite f fd) (T : Gs K mg t_BOUND t_DIGITS t_LETTERS t_LONGEST_INTEGER t_LONGEST_NAME t_MOST_NESTED a_ALWAYS a_MARKS a_NEVER a_OPPOSITES a_RESERVED a_SIGNS a_BadName a_BadNumber a_BadSign a_BadText a_Condition a_ElseputError a_Reader a_TooLarge) (kd : ∀ p ∈ oppL, KDct K w a_OPPOSITES p.1 (.str p.2)) (b : Binds K fd ["tree"] []) (kp : PySem.W.keepIn K (.ref f) = true) (m : mg "opposite" = some (.ref f)) :
    FnOk P w K mg base CX0 22 f fd ["tree"] (sp_opposite K) := opp_all F T kd b kp m 20
def sp_Condition___invert__ (K : PySem.W.Frag) : Sp := fun vs H Q _ => ∃ (a : Addr) (t : Tr), vs = [.ref a] ∧ CnAt K H a t ∧ Gd t ∧ ∀ (H' : Hp) (c : Addr), Same H H' → H c = none → CnAt K H' c (oppT t) → Q (.ref c) H'
theorem len_Condition___invert__ {vs : List V} {H : Hp} {Q : VK} {E : XK} (h : sp_Condition___invert__ K vs H Q E) : vs.length = 1 := by
  obtain ⟨_, _, rfl, _⟩ := h
  rfl
theorem ok_Condition___invert__ {f : Addr} {fd : FuncData} {f_opposite : Addr} {fd_opposite : FuncData} {f_Condition___init__ : Addr} {fd_Condition___init__ : FuncData} (F : Fun K "__invert__" "Condition.__invert__" s_Condition___invert__ f fd) (T : Gs K mg t_BOUND t_DIGITS t_LETTERS t_LONGEST_INTEGER t_LONGEST_NAME t_MOST_NESTED a_ALWAYS a_MARKS a_NEVER a_OPPOSITES a_RESERVED a_SIGNS a_BadName a_BadNumber a_BadSign a_BadText a_Condition a_ElseputError a_Reader a_TooLarge) (c_opposite : Cal P w K mg base CX0 22 "opposite" f_opposite fd_opposite ["tree"] (sp_opposite K)) (c_Condition___init__ : CalI P w K mg base CX0 23 "Condition" a_Condition f_Condition___init__ fd_Condition___init__ ["self", "tree"] (sp_Condition___init__ K)) : FnOk P w K mg base CX0 25 f fd ["self"] (sp_Condition___invert__ K) := by
  refine F.ok sc_Condition___invert__ (fun vs H Q E h => len_Condition___invert__ h) (fun cdv A outer s H vs Q E hr h => ?_)
  obtain ⟨a, t, rfl, hA, g, q⟩ := h
  obtain ⟨C, dx, u, v, ss, hC, ha, hv, _⟩ := id hA
  cases hC.symm.trans T.n_Condition
  have g1 := g.dp
  have g2 := (oppT_gd g).dp
  have g3 := (oppT_gd g).cs
  refine ⟨_, (pss_one (ps_ret (pe_make c_Condition___init__.mkc c_Condition___init__.G (hr.mono (by first | decide | omega)) rfl c_Condition___init__.m c_Condition___init__.b .nil pass0 (pa_cons (pe_call c_opposite.G (hr.mono (by first | decide | omega)) rfl c_opposite.m c_opposite.kp c_opposite.b .nil pass0 (pa_cons (e_f K (v_ 0)) pa_nil)) pa_nil)))), ?_⟩
  refine ⟨a, a_Condition, dx, _, _, rfl, ha, T.cl_Condition, T.na_Condition_tree, rfl, v, t, rfl, hv, by omega, by omega, g.ok, fun H1 x s1 hx => ?_⟩
  intro c dc nc ndc nec
  have sk := same_mk (C := a_Condition) nc ndc
  refine ⟨c, a_Condition, dc, x, oppT t, rfl, T.n_Condition, upd_same, hx.same sk, by omega, by omega, fun H3 bt hA => ⟨rfl, ?_⟩⟩
  have s3 : Same H1 H3 := fun c o hc => bt c o (ne_of_none hc nc) (sk _ _ hc)
  exact q H3 c (s1.trans s3) (Same.free s1 nc) hA
end
section
variable {P : Program} {w : World} {K : PySem.W.Frag} {mg : Str → Option Value} {base : Heap}
variable {t_BOUND t_DIGITS t_LETTERS t_LONGEST_INTEGER t_LONGEST_NAME t_MOST_NESTED : Tok} {a_ALWAYS a_MARKS a_NEVER a_OPPOSITES a_RESERVED a_SIGNS a_BadName a_BadNumber a_BadSign a_BadText a_Condition a_ElseputError a_Reader a_TooLarge : Addr}
/-! ### _law_same -/
def sp__law_is_int (K : PySem.W.Frag) : Sp := fun vs H Q _ => ∃ i : Int, vs = [.int i] ∧ Q (.bl true) H
theorem len__law_is_int {vs : List V} {H : Hp} {Q : VK} {E : XK} (h : sp__law_is_int K vs H Q E) : vs.length = 1 := by
  obtain ⟨_, rfl, _⟩ := h
  rfl
theorem ok__law_is_int {f : Addr} {fd : FuncData} (F : Fun K "_law_is_int" "_law_is_int" s__law_is_int f fd) (T : Gs K mg t_BOUND t_DIGITS t_LETTERS t_LONGEST_INTEGER t_LONGEST_NAME t_MOST_NESTED a_ALWAYS a_MARKS a_NEVER a_OPPOSITES a_RESERVED a_SIGNS a_BadName a_BadNumber a_BadSign a_BadText a_Condition a_ElseputError a_Reader a_TooLarge) : FnOk P w K mg base CX0 1 f fd ["_law_thing"] (sp__law_is_int K) := by
  refine F.ok sc__law_is_int (fun vs H Q E h => len__law_is_int h) (fun cdv A outer s H vs Q E hr h => ?_)
  obtain ⟨i, rfl, q⟩ := h
  refine ⟨_, (pss_one (ps_ret (pe_andM (pe_callB (isiK K) (by rfl) T.z_isinstance (by decide +kernel) (pa_cons (v_ 0) (pa_cons (pe_bltn (v := .ty "int") (u := .type "int") (by rfl) T.z_int (by decide +kernel) rfl) pa_nil))) (pe_one (pe_notM (pe_callB (isiK K) (by rfl) T.z_isinstance (by decide +kernel) (pa_cons (v_ 0) (pa_cons (pe_bltn (v := .ty "bool") (u := .type "bool") (by rfl) T.z_bool (by decide +kernel) rfl) pa_nil)))))))), ?_⟩
  refine ⟨_, _, _, _, true, rfl, .ty _, .base (.int i), kit_ty (by decide +kernel), ?_⟩
  exact ⟨_, _, _, _, false, rfl, .ty _, .base (.int i), kit_ty (by decide +kernel), q⟩
def SameV (K : PySem.W.Frag) (H : Hp) : Nat → V → V → Prop
  | 0, _, _ => False
  | n + 1, x, y => (∃ i : Int, x = .int i ∧ y = .int i) ∨ (∃ z : Str, x = .str z ∧ y = .str z) ∨ ∃ (p q : Addr) (xs ys : List V), x = .ref p ∧ y = .ref q ∧ SqT K H p xs ∧ SqT K H q ys ∧
      xs.length = ys.length ∧ ys.length ≤ 1000 ∧ ∀ (i : Nat) (a b : V), xs[i]? = some a → ys[i]? = some b → SameV K H n a b
def spSame (n : Nat) : PySem.W.Frag → Sp := fun K vs H Q _ => ∃ x y : V, vs = [x, y] ∧ SameV K H n x y ∧ Q (.bl true) H
theorem len_same {n : Nat} {vs : List V} {H : Hp} {Q : VK} {E : XK} (h : spSame n K vs H Q E) : vs.length = 2 := by
  obtain ⟨_, _, rfl, _⟩ := h
  rfl
theorem same_step {n k : Nat} {f : Addr} {fd : FuncData} {f__law_is_int : Addr} {fd__law_is_int : FuncData} (F : Fun K "_law_same" "_law_same" s__law_same f fd) (T : Gs K mg t_BOUND t_DIGITS t_LETTERS t_LONGEST_INTEGER t_LONGEST_NAME t_MOST_NESTED a_ALWAYS a_MARKS a_NEVER a_OPPOSITES a_RESERVED a_SIGNS a_BadName a_BadNumber a_BadSign a_BadText a_Condition a_ElseputError a_Reader a_TooLarge)
    (c__law_is_int : Cal P w K mg base CX0 1 "_law_is_int" f__law_is_int fd__law_is_int ["_law_thing"] (sp__law_is_int K)) (c__law_same : Cal P w K mg base CX0 k "_law_same" f fd ["_law_actual", "_law_due"] (spSame n K)) (hk : 1 ≤ k) : FnOk P w K mg base CX0 (k + 1) f fd ["_law_actual", "_law_due"] (spSame (n + 1) K) := by
  refine F.ok sc__law_same (fun vs H Q E h => len_same h) (fun cdv A outer s H vs Q E hr h => ?_)
  obtain ⟨x, y, rfl, h, q⟩ := h
  refine ⟨_, (pss_cons (ps_if (pt_c op_isM (v_ 1) pe_non) (pss_one (ps_ret (pe_c op_isM (v_ 0) pe_non))) pss_nil) (pss_cons (ps_if (pt_c op_isM (v_ 1) pe_bl) (pss_one (ps_ret (pe_c op_isM (v_ 0) pe_bl))) pss_nil) (pss_cons (ps_if (pt_c op_isM (v_ 1) pe_bl) (pss_one (ps_ret (pe_c op_isM (v_ 0) pe_bl))) pss_nil) (pss_cons (ps_if (pt_t K (pe_callB (isiK K) (by rfl) T.z_isinstance (by decide +kernel) (pa_cons (v_ 1) (pa_cons (pe_bltn (v := .ty "int") (u := .type "int") (by rfl) T.z_int (by decide +kernel) rfl) pa_nil)))) (pss_one (ps_ret (pe_andM (pe_call c__law_is_int.G (hr.mono (by first | decide | omega)) rfl c__law_is_int.m c__law_is_int.kp c__law_is_int.b .nil pass0 (pa_cons (v_ 0) pa_nil)) (pe_one (pe_c (eqK K hr.units) (v_ 0) (v_ 1)))))) pss_nil) (pss_cons (ps_if (pt_t K (pe_callB (isiK K) (by rfl) T.z_isinstance (by decide +kernel) (pa_cons (v_ 1) (pa_cons (pe_bltn (v := .ty "str") (u := .type "str") (by rfl) T.z_str (by decide +kernel) rfl) pa_nil)))) (pss_one (ps_ret (pe_andM (pe_callB (isiK K) (by rfl) T.z_isinstance (by decide +kernel) (pa_cons (v_ 0) (pa_cons (pe_bltn (v := .ty "str") (u := .type "str") (by rfl) T.z_str (by decide +kernel) rfl) pa_nil))) (pe_one (pe_c (eqK K hr.units) (v_ 0) (v_ 1)))))) pss_nil) (pss_cons (ps_if (pt_t K (pe_callB (isiK K) (by rfl) T.z_isinstance (by decide +kernel) (pa_cons (v_ 1) (pa_cons (pe_bltn (v := .ty "dict") (u := .type "dict") (by rfl) T.z_dict (by decide +kernel) rfl) pa_nil)))) (pss_cons (ps_if (PW.pt (pw_or (pt_not (pt_t K (pe_callB (isiK K) (by rfl) T.z_isinstance (by decide +kernel) (pa_cons (v_ 0) (pa_cons (pe_bltn (v := .ty "dict") (u := .type "dict") (by rfl) T.z_dict (by decide +kernel) rfl) pa_nil))))) (pw_or1 (pt_c (neK K hr.units) (pe_callB (lenK K) (by rfl) T.z_len PySem.boot_len (pa_cons (v_ 0) pa_nil)) (pe_callB (lenK K) (by rfl) T.z_len PySem.boot_len (pa_cons (v_ 1) pa_nil)))))) (pss_one (ps_ret pe_bl)) pss_nil) (pss_cons (ps_lock (ps_for PassesOwn.never rfl (pi_keys (v_ 1)) (pg_name (i := 3) sc__law_same.nd rfl (.inl rfl)) (pss_one (ps_if (PW.pt (pw_or (pt_cmp (pc_dnotin (hu_of hr) (v_ 3) (v_ 0))) (pw_or1 (pt_not (pt_t K (pe_call c__law_same.G (hr.mono (by first | decide | omega)) rfl c__law_same.m c__law_same.kp c__law_same.b .nil pass0 (pa_cons (pe_dget (hu_of hr) (v_ 0) (v_ 3) (fun _ _ => rfl)) (pa_cons (pe_dget (hu_of hr) (v_ 1) (v_ 3) (fun _ _ => rfl)) pa_nil)))))))) (pss_one (ps_ret pe_bl)) pss_nil)))) (pss_one (ps_ret pe_bl)))) pss_nil) (pss_cons (ps_if (PW.pt (pw_and (pt_t K (pe_callB (isiK K) (by rfl) T.z_isinstance (by decide +kernel) (pa_cons (v_ 1) (pa_cons (pe_bltn (v := .ty "list") (u := .type "list") (by rfl) T.z_list (by decide +kernel) rfl) pa_nil)))) (pw_and1 (pt_not (pt_t K (pe_callB (isiK K) (by rfl) T.z_isinstance (by decide +kernel) (pa_cons (v_ 0) (pa_cons (pe_bltn (v := .ty "list") (u := .type "list") (by rfl) T.z_list (by decide +kernel) rfl) pa_nil)))))))) (pss_one (ps_ret pe_bl)) pss_nil) (pss_cons (ps_if (PW.pt (pw_and (pt_t K (pe_callB (isiK K) (by rfl) T.z_isinstance (by decide +kernel) (pa_cons (v_ 1) (pa_cons (pe_bltn (v := .ty "tuple") (u := .type "tuple") (by rfl) T.z_tuple (by decide +kernel) rfl) pa_nil)))) (pw_and1 (pt_not (pt_t K (pe_callB (isiK K) (by rfl) T.z_isinstance (by decide +kernel) (pa_cons (v_ 0) (pa_cons (pe_bltn (v := .ty "tuple") (u := .type "tuple") (by rfl) T.z_tuple (by decide +kernel) rfl) pa_nil)))))))) (pss_one (ps_ret pe_bl)) pss_nil) (pss_cons (ps_if (pt_c (neK K hr.units) (pe_callB (lenK K) (by rfl) T.z_len PySem.boot_len (pa_cons (v_ 0) pa_nil)) (pe_callB (lenK K) (by rfl) T.z_len PySem.boot_len (pa_cons (v_ 1) pa_nil))) (pss_one (ps_ret pe_bl)) pss_nil) (pss_cons (ps_for PassesOwn.never rfl (pi_range1 rfl T.z_range (pa_cons (pe_callB (lenK K) (by rfl) T.z_len PySem.boot_len (pa_cons (v_ 1) pa_nil)) pa_nil)) (pg_name (i := 2) sc__law_same.nd rfl (.inl rfl)) (pss_one (ps_if (pt_not (pt_t K (pe_call c__law_same.G (hr.mono (by first | decide | omega)) rfl c__law_same.m c__law_same.kp c__law_same.b .nil pass0 (pa_cons (e_x K (v_ 0) (v_ 2)) (pa_cons (e_x K (v_ 1) (v_ 2)) pa_nil))))) (pss_one (ps_ret pe_bl)) pss_nil))) (pss_one (ps_ret pe_bl)))))))))))), ?_⟩
  rcases h with ⟨i, rfl, rfl⟩ | ⟨z, rfl, rfl⟩ | ⟨a, b, xs, ys, rfl, rfl, ha, hb, hl, h1, hs⟩
  · refine ⟨_, _, _, _, true, rfl, .ty _, .base (.int i), kit_ty (by decide +kernel), ?_⟩
    refine ⟨i, rfl, ?_⟩
    have e : decide (i = i) = true := decide_eq_true rfl
    rw [← e] at q
    exact q
  · refine ⟨_, _, _, _, false, rfl, .ty _, .base (.str z), kit_ty (by decide +kernel), ?_⟩
    refine ⟨_, _, _, _, true, rfl, .ty _, .base (.str z), kit_ty (by decide +kernel), ?_⟩
    refine ⟨_, _, _, _, true, rfl, .ty _, .base (.str z), kit_ty (by decide +kernel), ?_⟩
    have e : decide (z = z) = true := decide_eq_true rfl
    rw [← e] at q
    exact q
  · have tb := ty_tup hb
    refine ⟨_, _, _, _, false, rfl, .ty _, tb, kit_ty (by decide +kernel), ?_⟩
    refine ⟨_, _, _, _, false, rfl, .ty _, tb, kit_ty (by decide +kernel), ?_⟩
    refine ⟨_, _, _, _, false, rfl, .ty _, tb, kit_ty (by decide +kernel), ?_⟩
    refine ⟨_, _, _, _, false, rfl, .ty _, tb, kit_ty (by decide +kernel), ?_⟩
    refine ⟨_, _, _, _, true, rfl, .ty _, tb, kit_ty (by decide +kernel), ?_⟩
    refine ⟨_, _, _, _, true, rfl, .ty _, ty_tup ha, kit_ty (by decide +kernel), ?_⟩
    refine .inl ⟨_, .inr ha, .inl ⟨_, .inr hb, ?_⟩⟩
    refine ite2 (fun e => ?_) (fun _ => ?_)
    · exact absurd e (by rw [hl]; simp)
    refine .inl ⟨_, .inr hb, _, rfl, by omega, by omega, ?_⟩
    refine for_range (lo := 0) (n := ys.length) (fun i σ' H' => H' = H ∧ ∃ y, σ' = [some (.ref a), some (.ref b), y, none]) ⟨rfl, _, rfl⟩ ?_ ?_
    · rintro i σ' H' hi ⟨rfl, y, rfl⟩
      have ex := List.getElem?_eq_getElem (l := xs) (i := i) (by omega)
      have ey := List.getElem?_eq_getElem (l := ys) hi
      refine ⟨_, .inr ha, xs[i], ?_, _, .inr hb, ys[i], ?_, _, _, rfl, hs i _ _ ex ey, ?_⟩
      · rw [show (0 : Int) + i = ((i : Nat) : Int) by omega]
        exact atI_nat ex
      · rw [show (0 : Int) + i = ((i : Nat) : Int) by omega]
        exact atI_nat ey
      exact ⟨rfl, _, rfl⟩
    · rintro σ' H' ⟨rfl, y, rfl⟩
      exact q
theorem same_all {f : Addr} {fd : FuncData} {f__law_is_int : Addr} {fd__law_is_int : FuncData} (F : Fun K "_law_same" "_law_same" s__law_same f fd) (T : Gs K mg t_BOUND t_DIGITS t_LETTERS t_LONGEST_INTEGER t_LONGEST_NAME t_MOST_NESTED a_ALWAYS a_MARKS a_NEVER a_OPPOSITES a_RESERVED a_SIGNS a_BadName a_BadNumber a_BadSign a_BadText a_Condition a_ElseputError a_Reader a_TooLarge)
    (c__law_is_int : Cal P w K mg base CX0 1 "_law_is_int" f__law_is_int fd__law_is_int ["_law_thing"] (sp__law_is_int K)) (b : Binds K fd ["_law_actual", "_law_due"] []) (kp : PySem.W.keepIn K (.ref f) = true) (m : mg "_law_same" = some (.ref f)) :
    ∀ n : Nat, FnOk P w K mg base CX0 (n + 2) f fd ["_law_actual", "_law_due"] (spSame n K)
  | 0 => ⟨fun _ _ _ _ h => len_same h, by
    intro A outer s H args us vs Q E _ _ _ _ h
    obtain ⟨_, _, _, h, _⟩ := h
    exact False.elim h⟩
  | n + 1 => same_step F T c__law_is_int ⟨same_all F T c__law_is_int b kp m n, b, kp, m⟩ (by omega)
def sp__law_same : PySem.W.Frag → Sp := spSame 24
theorem ok__law_same {f : Addr} {fd : FuncData} {f__law_is_int : Addr} {fd__law_is_int : FuncData} (F : Fun K "_law_same" "_law_same" s__law_same f fd) (T : Gs K mg t_BOUND t_DIGITS t_LETTERS t_LONGEST_INTEGER t_LONGEST_NAME t_MOST_NESTED a_ALWAYS a_MARKS a_NEVER a_OPPOSITES a_RESERVED a_SIGNS a_BadName a_BadNumber a_BadSign a_BadText a_Condition a_ElseputError a_Reader a_TooLarge)
    (c__law_is_int : Cal P w K mg base CX0 1 "_law_is_int" f__law_is_int fd__law_is_int ["_law_thing"] (sp__law_is_int K)) (b : Binds K fd ["_law_actual", "_law_due"] []) (kp : PySem.W.keepIn K (.ref f) = true) (m : mg "_law_same" = some (.ref f)) :
    FnOk P w K mg base CX0 26 f fd ["_law_actual", "_law_due"] (sp__law_same K) := same_all F T c__law_is_int b kp m 24
theorem same_int {H : Hp} {n : Nat} (i : Int) : SameV K H (n + 1) (.int i) (.int i) := .inl ⟨i, rfl, rfl⟩
theorem same_str {H : Hp} {n : Nat} (z : Str) : SameV K H (n + 1) (.str z) (.str z) := .inr (.inl ⟨z, rfl, rfl⟩)
theorem same_tupN {H : Hp} {t u : Addr} {xs ys : List V} {n : Nat} (h1 : SqT K H t xs) (h2 : SqT K H u ys) (hl : xs.length = ys.length) (h4 : ys.length ≤ 1000) (h : ∀ (i : Nat) (a b : V), xs[i]? = some a → ys[i]? = some b → SameV K H n a b) : SameV K H (n + 1) (.ref t) (.ref u) :=
  .inr (.inr ⟨t, u, _, _, rfl, rfl, h1, h2, hl, h4, h⟩)
theorem same_two {H : Hp} {t u : Addr} {w : Str} {x y : V} {m : Nat} (h1 : SqT K H t [.str w, x]) (h2 : SqT K H u [.str w, y]) (h : SameV K H (m + 1) x y) : SameV K H (m + 2) (.ref t) (.ref u) := by
  refine same_tupN h1 h2 rfl (by show 2 ≤ 1000; decide) fun i a b ha hb => ?_
  match i, ha, hb with
  | 0, ha, hb => cases ha; cases hb; exact same_str _
  | 1, ha, hb => cases ha; cases hb; exact h
theorem same_strs {H : Hp} {t u : Addr} {zs : List Str} {n : Nat} (h1 : SqT K H t (zs.map V.str)) (h2 : SqT K H u (zs.map V.str)) (hl : zs.length ≤ 1000) : SameV K H (n + 2) (.ref t) (.ref u) := by
  refine same_tupN h1 h2 rfl (by rw [List.length_map]; exact hl) fun i a b ha hb => ?_
  rw [ha] at hb
  cases hb
  rw [List.getElem?_map] at ha
  obtain ⟨z, hz, rfl⟩ := Option.map_eq_some_iff.mp ha
  exact same_str z
theorem same_tree {H : Hp} (t : Tr) : ∀ {x y : V} {m : Nat}, TAt K H t x → TAt K H t y → SameV K H (t.depth + m + 2) x y := by
  induction t with
  | tt =>
    intro x y m h1 h2
    obtain ⟨a, rfl, h1⟩ := h1
    obtain ⟨b, rfl, h2⟩ := h2
    refine same_tupN h1 h2 rfl (by show 1 ≤ 1000; decide) fun i a b ha hb => ?_
    match i, ha, hb with
    | 0, ha, hb => cases ha; cases hb; exact same_str _
  | ff =>
    intro x y m h1 h2
    obtain ⟨a, rfl, h1⟩ := h1
    obtain ⟨b, rfl, h2⟩ := h2
    refine same_tupN h1 h2 rfl (by show 1 ≤ 1000; decide) fun i a b ha hb => ?_
    match i, ha, hb with
    | 0, ha, hb => cases ha; cases hb; exact same_str _
  | cmp f s n =>
    intro x y m h1 h2
    obtain ⟨a, rfl, h1⟩ := h1
    obtain ⟨b, rfl, h2⟩ := h2
    refine same_tupN h1 h2 rfl (by show 4 ≤ 1000; decide) fun i a b ha hb => ?_
    match i, ha, hb with
    | 0, ha, hb => cases ha; cases hb; exact same_str _
    | 1, ha, hb => cases ha; cases hb; exact same_str _
    | 2, ha, hb => cases ha; cases hb; exact same_str _
    | 3, ha, hb => cases ha; cases hb; exact same_int _
  | con w l r il ir =>
    intro x y m h1 h2
    obtain ⟨a, x1, y1, rfl, h1, hx, hy⟩ := h1
    obtain ⟨b, x2, y2, rfl, h2, hx', hy'⟩ := h2
    have e : (Tr.con w l r).depth + m + 2 = (max l.depth r.depth + m + 2) + 1 := by
      show max l.depth r.depth + 1 + m + 2 = _
      omega
    rw [e]
    refine same_tupN h1 h2 rfl (by show 3 ≤ 1000; decide) fun i a b ha hb => ?_
    match i, ha, hb with
    | 0, ha, hb => cases ha; cases hb; exact same_str _
    | 1, ha, hb =>
      cases ha; cases hb
      have := il (m := max l.depth r.depth - l.depth + m) hx hx'
      rwa [show l.depth + (max l.depth r.depth - l.depth + m) + 2 = max l.depth r.depth + m + 2 by omega] at this
    | 2, ha, hb =>
      cases ha; cases hb
      have := ir (m := max l.depth r.depth - r.depth + m) hy hy'
      rwa [show r.depth + (max l.depth r.depth - r.depth + m) + 2 = max l.depth r.depth + m + 2 by omega] at this
end
section
variable {P : Program} {w : World} {K : PySem.W.Frag} {mg : Str → Option Value} {base : Heap}
variable {t_BOUND t_DIGITS t_LETTERS t_LONGEST_INTEGER t_LONGEST_NAME t_MOST_NESTED : Tok} {a_ALWAYS a_MARKS a_NEVER a_OPPOSITES a_RESERVED a_SIGNS a_BadName a_BadNumber a_BadSign a_BadText a_Condition a_ElseputError a_Reader a_TooLarge : Addr}
/-- an error's place, all but the reader standing -/
def BadB (K : PySem.W.Frag) (a : Addr) (H : Hp) (num col : Int) (E : XK) : Prop := ∀ (C d : Addr) (H' : Hp), PySem.W.nsIn K mainGlobals "BadText" = some (some (.ref C)) → Bt a H H' → H d = none → H' d = some (.xd [("column", .int col), ("line", .int num)]) → E (.ref C) (some d) H'
theorem BadB.at {K : PySem.W.Frag} {a : Addr} {H H2 : Hp} {num col : Int} {E : XK} {o : HO} (q : BadB K a H num col E) (b : Bt a H H2) (ha : H2 a = some o) : BadAt K H2 num col E := fun C d H' hC s nd hd =>
  q C d H' hC (b.trans (Bt.same s)) (b.free (ne_of_none ha nd).symm nd) hd
theorem BadB.bt {K : PySem.W.Frag} {a : Addr} {H H2 : Hp} {num col : Int} {E : XK} (q : BadB K a H num col E) (b : Bt a H H2) (ha : ∃ o, H2 a = some o) : ∀ (C d : Addr) (H' : Hp), PySem.W.nsIn K mainGlobals "BadText" = some (some (.ref C)) → Bt a H2 H' → H2 d = none → H' d = some (.xd [("column", .int col), ("line", .int num)]) → E (.ref C) (some d) H' := fun C d H' hC s nd hd => by
  obtain ⟨o, ha⟩ := ha
  exact q C d H' hC (b.trans s) (b.free (ne_of_none ha nd).symm nd) hd
/-! ### the parser as mathematics -/
inductive Ps where
  | leaf (t : Tr)
  | neg (p : Ps)
  | grp (w : Bool) (l : List Ps)
mutual
def PAt (K : PySem.W.Frag) (H : Hp) (N : Addr → Prop) : Ps → V → Prop
  | .leaf t, v => TAt K H t v
  | .neg p, v => ∃ a x, v = .ref a ∧ H a = some (.tup [.str "not", x]) ∧ PAt K H N p x
  | .grp w l, v => ∃ (a L : Addr) (xs : List V), v = .ref a ∧ H a = some (.tup [.str (wd w), .ref L]) ∧ H L = some (.lst xs) ∧ ¬ N L ∧ PAts K H N l xs
def PAts (K : PySem.W.Frag) (H : Hp) (N : Addr → Prop) : List Ps → List V → Prop
  | [], xs => xs = []
  | p :: l, xs => ∃ x r, xs = x :: r ∧ PAt K H N p x ∧ PAts K H N l r
end
/-- all but lists and instances stands; of the lists, those that are not in N -/
structure Kn (N : Addr → Prop) (H H' : Hp) : Prop where
  o : ∀ b o, (∀ l, o ≠ HO.lst l) → (∀ C dx fs, o ≠ HO.ins C dx fs) → H b = some o → H' b = some o
  l : ∀ b xs, ¬ N b → H b = some (.lst xs) → H' b = some (.lst xs)
theorem Kn.same {N : Addr → Prop} {H H' : Hp} (s : Same H H') : Kn N H H' := ⟨fun b o _ _ h => s b o h, fun b xs _ h => s b _ h⟩
theorem Kn.trans {N : Addr → Prop} {H H1 H2 : Hp} (a : Kn N H H1) (b : Kn N H1 H2) : Kn N H H2 := ⟨fun c o n m h => b.o c o n m (a.o c o n m h), fun c xs n h => b.l c xs n (a.l c xs n h)⟩
theorem Kn.bt {N : Addr → Prop} {H H' : Hp} {a C dx : Addr} {fs : List (Str × V)} (ha : H a = some (.ins C dx fs)) (s : Bt a H H') : Kn N H H' :=
  ⟨fun b o _ m h => s b o (fun e => by rw [e, ha] at h; cases h; exact m _ _ _ rfl) h, fun b xs _ h => s b _ (fun e => by rw [e, ha] at h; cases h) h⟩
theorem Kn.lst {N : Addr → Prop} {H : Hp} {L : Addr} {xs ys : List V} (hL : H L = some (.lst xs)) (hN : N L) : Kn N H (upd H L (.lst ys)) :=
  ⟨fun b o n _ h => by
    rw [upd_ne (fun e => by rw [e, hL] at h; cases h; exact n _ rfl)]
    exact h, fun b zs n h => by
    rw [upd_ne (fun e => n (by rw [e]; exact hN))]
    exact h⟩
theorem SqT.kn {K : PySem.W.Frag} {N : Addr → Prop} {H H' : Hp} {a : Addr} {xs : List V} (h : SqT K H a xs) (s : Kn N H H') : SqT K H' a xs := by
  rcases h with (h | ⟨o, h⟩) | h
  · exact .inl (.inl (s.o _ _ (by intro l e; cases e) (by intro _ _ _ e; cases e) h))
  · exact .inl (.inr ⟨o, s.o _ _ (by intro l e; cases e) (by intro _ _ _ e; cases e) h⟩)
  · exact .inr h
theorem TAt.kn {K : PySem.W.Frag} {N : Addr → Prop} {H H' : Hp} (s : Kn N H H') : ∀ {t : Tr} {v : V}, TAt K H t v → TAt K H' t v
  | .tt, _, ⟨a, e, h⟩ => ⟨a, e, SqT.kn h s⟩
  | .ff, _, ⟨a, e, h⟩ => ⟨a, e, SqT.kn h s⟩
  | .cmp _ _ _, _, ⟨a, e, h⟩ => ⟨a, e, SqT.kn h s⟩
  | .con _ _ _, _, ⟨a, x, y, e, h, h1, h2⟩ => ⟨a, x, y, e, SqT.kn h s, TAt.kn s h1, TAt.kn s h2⟩
mutual
theorem PAt.kn {K : PySem.W.Frag} {N N' : Addr → Prop} {H H' : Hp} (s : Kn N H H') (hN : ∀ b, N' b → N b) : ∀ {p : Ps} {v : V}, PAt K H N p v → PAt K H' N' p v
  | .leaf t, v, h => by
    unfold PAt at h ⊢
    exact TAt.kn s h
  | .neg p, v, h => by
    unfold PAt at h ⊢
    obtain ⟨a, x, e, ha, hx⟩ := h
    exact ⟨a, x, e, s.o _ _ (by intro l e; cases e) (by intro _ _ _ e; cases e) ha, PAt.kn s hN hx⟩
  | .grp w l, v, h => by
    unfold PAt at h ⊢
    obtain ⟨a, L, xs, e, ha, hL, hn, hx⟩ := h
    exact ⟨a, L, xs, e, s.o _ _ (by intro l e; cases e) (by intro _ _ _ e; cases e) ha, s.l _ _ hn hL, fun h => hn (hN _ h), PAts.kn s hN hx⟩
theorem PAts.kn {K : PySem.W.Frag} {N N' : Addr → Prop} {H H' : Hp} (s : Kn N H H') (hN : ∀ b, N' b → N b) : ∀ {l : List Ps} {xs : List V}, PAts K H N l xs → PAts K H' N' l xs
  | [], xs, h => by
    unfold PAts at h ⊢
    exact h
  | p :: l, xs, h => by
    unfold PAts at h ⊢
    obtain ⟨x, r, e, h1, h2⟩ := h
    exact ⟨x, r, e, PAt.kn s hN h1, PAts.kn s hN h2⟩
end
theorem PAts.snoc {K : PySem.W.Frag} {N : Addr → Prop} {H : Hp} {p : Ps} {x : V} (h : PAt K H N p x) : ∀ {l : List Ps} {xs : List V}, PAts K H N l xs → PAts K H N (l ++ [p]) (xs ++ [x])
  | [], xs, k => by
    unfold PAts at k
    subst k
    show PAts K H N [p] [x]
    unfold PAts
    exact ⟨x, [], rfl, h, by unfold PAts; rfl⟩
  | q :: l, xs, k => by
    unfold PAts at k
    obtain ⟨y, r, rfl, h1, h2⟩ := k
    show PAts K H N (q :: (l ++ [p])) (y :: (r ++ [x]))
    unfold PAts
    exact ⟨y, _, rfl, h1, PAts.snoc h h2⟩
theorem PAts.len {K : PySem.W.Frag} {N : Addr → Prop} {H : Hp} : ∀ {l : List Ps} {xs : List V}, PAts K H N l xs → xs.length = l.length
  | [], xs, k => by
    unfold PAts at k
    rw [k]
    rfl
  | q :: l, xs, k => by
    unfold PAts at k
    obtain ⟨y, r, rfl, h1, h2⟩ := k
    rw [List.length_cons, List.length_cons, PAts.len h2]
abbrev PO := Except Nat (Ps × Nat)
abbrev LO := Except Nat (List Ps × Nat)
def preL (ys : List Ps) (o : LO) : LO := match o with
  | .error j => .error j
  | .ok r => .ok (ys ++ r.1, r.2)
theorem preL_pre {ys zs : List Ps} {o : LO} : preL ys (preL zs o) = preL (ys ++ zs) o := by
  cases o with
  | error j => rfl
  | ok r =>
    show Except.ok _ = Except.ok _
    rw [List.append_assoc]
def chn (toks : Tks) (W : List Nat) (f : Nat → PO) : Nat → Nat → LO
  | 0, i => .ok ([], i)
  | n + 1, i => if tokAt toks i = W then (match f (i + 1) with
      | .error j => .error j
      | .ok x => preL [x.1] (chn toks W f n x.2)) else .ok ([], i)
def lst1 (toks : Tks) (W : List Nat) (f : Nat → PO) (i : Nat) : LO := match f i with
  | .error j => .error j
  | .ok x => preL [x.1] (chn toks W f toks.length x.2)
def grpP (w : Bool) (o : LO) : PO := match o with
  | .error j => .error j
  | .ok x => .ok (.grp w x.1, x.2)
def wdC (w : Bool) : List Nat := (wd w).cps.toList
noncomputable def basP (toks : Tks) (i : Nat) : PO :=
  if tokAt toks i = ("always" : Str).cps.toList then .ok (.leaf .tt, i + 1) else
  if tokAt toks i = ("never" : Str).cps.toList then .ok (.leaf .ff, i + 1) else
  if isName (mkS (tokAt toks i)) = true then (if mkS (tokAt toks (i + 1)) ∈ signs then (match rdI (tokAt toks (i + 2)) with
    | none => .error (i + 2)
    | some n => .ok (.leaf (.cmp (mkS (tokAt toks i)) (mkS (tokAt toks (i + 1))) n), i + 3)) else .error (i + 1)) else .error i
def negP (o : PO) : PO := match o with
  | .error j => .error j
  | .ok x => .ok (.neg x.1, x.2)
def parP (toks : Tks) (o : PO) : PO := match o with
  | .error j => .error j
  | .ok x => if tokAt toks x.2 = [41] then .ok (x.1, x.2 + 1) else .error x.2
def cjP (toks : Tks) (f : Nat → PO) (i : Nat) : PO := grpP true (lst1 toks (wdC true) f i)
def cdP (toks : Tks) (f : Nat → PO) (i : Nat) : PO := grpP false (lst1 toks (wdC false) (cjP toks f) i)
noncomputable def facP (toks : Tks) : Nat → Nat → PO
  | 0, i => basP toks i
  | m + 1, i => if tokAt toks i = ("not" : Str).cps.toList then negP (facP toks m (i + 1)) else if tokAt toks i = [40] then parP toks (cdP toks (facP toks m) (i + 1)) else basP toks i
/-- what a part ends behind -/
def Fwd (f : Nat → PO) : Prop := ∀ i x, f i = .ok x → i < x.2
theorem chn_fwd {toks : Tks} {W : List Nat} {f : Nat → PO} (hf : Fwd f) : ∀ {n i : Nat} {x : List Ps × Nat}, chn toks W f n i = .ok x → i ≤ x.2
  | 0, i, x, h => by cases h; exact Nat.le_refl _
  | n + 1, i, x, h => by
    unfold chn at h
    split at h
    · cases hi : f (i + 1) with
      | error j => rw [hi] at h; cases h
      | ok y =>
        rw [hi] at h
        have h : preL [y.1] (chn toks W f n y.2) = .ok x := h
        have h1 := hf _ _ hi
        cases hc : chn toks W f n y.2 with
        | error j => rw [hc] at h; cases h
        | ok z =>
          rw [hc] at h
          cases h
          have := chn_fwd hf hc
          show i ≤ z.2
          omega
    · cases h
      exact Nat.le_refl _
theorem lst1_fwd {toks : Tks} {W : List Nat} {f : Nat → PO} (hf : Fwd f) {i : Nat} {x : List Ps × Nat} (h : lst1 toks W f i = .ok x) : i < x.2 := by
  unfold lst1 at h
  cases hi : f i with
  | error j => rw [hi] at h; cases h
  | ok y =>
    rw [hi] at h
    have h : preL [y.1] (chn toks W f toks.length y.2) = .ok x := h
    have h1 := hf _ _ hi
    cases hc : chn toks W f toks.length y.2 with
    | error j => rw [hc] at h; cases h
    | ok z =>
      rw [hc] at h
      cases h
      have := chn_fwd hf hc
      show i < z.2
      omega
theorem grp_fwd {toks : Tks} {W : List Nat} {w : Bool} {f : Nat → PO} (hf : Fwd f) : Fwd (fun i => grpP w (lst1 toks W f i)) := fun i x h => by
  have h : grpP w (lst1 toks W f i) = .ok x := h
  cases hl : lst1 toks W f i with
  | error j => rw [hl] at h; cases h
  | ok y =>
    rw [hl] at h
    cases h
    exact lst1_fwd hf hl
theorem bas_fwd {toks : Tks} : Fwd (basP toks) := fun i x h => by
  unfold basP at h
  split at h
  · cases h; exact Nat.lt_succ_self _
  split at h
  · cases h; exact Nat.lt_succ_self _
  split at h
  · split at h
    · split at h
      · cases h
      · cases h
        show i < i + 3
        omega
    · cases h
  · cases h
theorem fac_fwd {toks : Tks} : ∀ m, Fwd (facP toks m)
  | 0 => bas_fwd
  | m + 1 => fun i x h => by
    have ih := fac_fwd (toks := toks) m
    unfold facP at h
    split at h
    · cases hi : facP toks m (i + 1) with
      | error j => rw [hi] at h; cases h
      | ok y =>
        rw [hi] at h
        cases h
        have := ih _ _ hi
        show i < y.2
        omega
    split at h
    · cases hi : cdP toks (facP toks m) (i + 1) with
      | error j => rw [hi] at h; cases h
      | ok y =>
        rw [hi] at h
        have h1 : i + 1 < y.2 := grp_fwd (grp_fwd ih) _ _ hi
        have h : (if tokAt toks y.2 = [41] then Except.ok (y.1, y.2 + 1) else Except.error y.2 : PO) = .ok x := h
        split at h
        · cases h
          show i < y.2 + 1
          omega
        · cases h
    · exact bas_fwd _ _ h
end
section
variable {P : Program} {w : World} {K : PySem.W.Frag} {mg : Str → Option Value} {base : Heap}
variable {t_BOUND t_DIGITS t_LETTERS t_LONGEST_INTEGER t_LONGEST_NAME t_MOST_NESTED : Tok} {a_ALWAYS a_MARKS a_NEVER a_OPPOSITES a_RESERVED a_SIGNS a_BadName a_BadNumber a_BadSign a_BadText a_Condition a_ElseputError a_Reader a_TooLarge : Addr}
/-! ### parse_factor and its like -/
def POut (K : PySem.W.Frag) (H : Hp) (a p : Addr) (num e : Int) (toks : Tks) (o : PO) (Q : VK) (E : XK) : Prop := match o with
  | .error j => BadB K a H num (colAt toks e j) E
  | .ok x => ∀ (H' : Hp) (v : V), Bt a H H' → RdAt K H' a p num e toks x.2 → PAt K H' (fun b => H b ≠ none) x.1 v → Q v H'
def spP (f : Tks → Nat → Nat → PO) (n : Nat) : PySem.W.Frag → Sp := fun K vs H Q E => ∃ (a p : Addr) (num e : Int) (toks : Tks) (i m : Nat) (d : Int), vs = [.ref a, .int d] ∧ n = m + 1 ∧ d + m = 20 ∧ Rd0 K H a p num e toks i ∧ (∀ j, TokE (tokAt toks j)) ∧ toks.length ≤ 20000 ∧ POut K H a p num e toks (f toks m i) Q E
theorem len_P {f : Tks → Nat → Nat → PO} {n : Nat} {vs : List V} {H : Hp} {Q : VK} {E : XK} (h : spP f n K vs H Q E) : vs.length = 2 := by
  obtain ⟨_, _, _, _, _, _, _, _, rfl, _⟩ := h
  rfl
noncomputable def fF : Tks → Nat → Nat → PO := fun toks m i => facP toks m i
noncomputable def fJ : Tks → Nat → Nat → PO := fun toks m i => cjP toks (facP toks m) i
noncomputable def fD : Tks → Nat → Nat → PO := fun toks m i => cdP toks (facP toks m) i
theorem chn_stop {toks : Tks} {W : List Nat} {f : Nat → PO} {n i : Nat} (h : tokAt toks i ≠ W) : chn toks W f n i = .ok ([], i) := by
  cases n with
  | zero => rfl
  | succ n => unfold chn; rw [if_neg h]
theorem chn_err {toks : Tks} {W : List Nat} {f : Nat → PO} {n i j : Nat} (h : tokAt toks i = W) (hA : f (i + 1) = .error j) : chn toks W f (n + 1) i = .error j := by
  unfold chn
  rw [if_pos h, hA]
theorem chn_on {toks : Tks} {W : List Nat} {f : Nat → PO} {n i : Nat} {x : Ps × Nat} (h : tokAt toks i = W) (hA : f (i + 1) = .ok x) : chn toks W f (n + 1) i = preL [x.1] (chn toks W f n x.2) := by
  conv => lhs; unfold chn
  rw [if_pos h, hA]
mutual
theorem PAt.more {K : PySem.W.Frag} {N : Addr → Prop} {H H' : Hp} {L : Addr} (nL : H L = none) : ∀ {p : Ps} {v : V}, PAt K H N p v → Kn N H H' → PAt K H' (fun b => N b ∨ b = L) p v
  | .leaf t, v, h, s => by
    unfold PAt at h ⊢
    exact TAt.kn s h
  | .neg p, v, h, s => by
    unfold PAt at h ⊢
    obtain ⟨a, x, e, ha, hx⟩ := h
    exact ⟨a, x, e, s.o _ _ (by intro l e; cases e) (by intro _ _ _ e; cases e) ha, PAt.more nL hx s⟩
  | .grp w l, v, h, s => by
    unfold PAt at h ⊢
    obtain ⟨a, L2, xs, e, ha, hL, hn, hx⟩ := h
    exact ⟨a, L2, xs, e, s.o _ _ (by intro l e; cases e) (by intro _ _ _ e; cases e) ha, s.l _ _ hn hL, (fun h => h.elim hn (fun e => by rw [e, nL] at hL; cases hL)), PAts.more nL hx s⟩
theorem PAts.more {K : PySem.W.Frag} {N : Addr → Prop} {H H' : Hp} {L : Addr} (nL : H L = none) : ∀ {l : List Ps} {xs : List V}, PAts K H N l xs → Kn N H H' → PAts K H' (fun b => N b ∨ b = L) l xs
  | [], xs, h, s => by
    unfold PAts at h ⊢
    exact h
  | p :: l, xs, h, s => by
    unfold PAts at h ⊢
    obtain ⟨x, r, e, h1, h2⟩ := h
    exact ⟨x, r, e, PAt.more nL h1 s, PAts.more nL h2 s⟩
end
theorem cj_step {n k : Nat} {f : Addr} {fd : FuncData} {f_Reader_skip : Addr} {fd_Reader_skip : FuncData} {f_parse_factor : Addr} {fd_parse_factor : FuncData} (F : Fun K "parse_conjunction" "parse_conjunction" s_parse_conjunction f fd) (T : Gs K mg t_BOUND t_DIGITS t_LETTERS t_LONGEST_INTEGER t_LONGEST_NAME t_MOST_NESTED a_ALWAYS a_MARKS a_NEVER a_OPPOSITES a_RESERVED a_SIGNS a_BadName a_BadNumber a_BadSign a_BadText a_Condition a_ElseputError a_Reader a_TooLarge)
    (c_Reader_skip : CalM P w K mg base CX0 3 a_Reader "skip" f_Reader_skip fd_Reader_skip ["self", "token"] (sp_Reader_skip K)) (c_parse_factor : Cal P w K mg base (L2.CX P w) k "parse_factor" f_parse_factor fd_parse_factor ["reader", "depth"] (spP fF n K)) (hk : 3 ≤ k) : FnOk P w K mg base (L2.CX P w) (k + 1) f fd ["reader", "depth"] (spP fJ n K) := by
  refine F.okX sc_parse_conjunction (fun vs H Q E h => len_P h) (fun cdv A outer s H vs Q E hr h => ?_)
  obtain ⟨a, p, num, e, toks, i0, m, d, rfl, hn, hdm, hR0, hT, hlen, q⟩ := h
  obtain ⟨C, dx, ts, hC, ha, hp, hts, hi⟩ := id hR0.1
  cases hC.symm.trans T.n_Reader
  refine ⟨_, (pss_cons (ps_set (i := 2) sc_parse_conjunction.nd rfl (.inl rfl) (pe_lst (pa_cons (pe_call c_parse_factor.G (hr.mono (by first | decide | omega)) rfl c_parse_factor.m c_parse_factor.kp c_parse_factor.b .nil (passes_call (takes_of rfl rfl rfl rfl) (fun _ _ _ _ h => h)) (pa_cons (v_ 0) (pa_cons (v_ 1) pa_nil))) pa_nil))) (pss_cons (ps_while (passes_of rfl) (pt_t K (pe_meth (v_ 0) c_Reader_skip.cl c_Reader_skip.me c_Reader_skip.G (hr.mono (by first | decide | omega)) c_Reader_skip.b .nil pass0 (pa_cons pe_str pa_nil))) (pss_one (ps_expr (pe_bm PySem.F.plainAttrs_list PySem.F.slot_list_append PySem.F.type_list_append mt_append (v_ 2) (pa_cons (pe_call c_parse_factor.G (hr.mono (by first | decide | omega)) rfl c_parse_factor.m c_parse_factor.kp c_parse_factor.b .nil (passes_call (takes_of rfl rfl rfl rfl) (fun _ _ _ _ h => h)) (pa_cons (v_ 0) (pa_cons (v_ 1) pa_nil))) pa_nil))))) (pss_one (ps_ret (pe_tup (pa_cons pe_str (pa_cons (v_ 2) pa_nil))))))), ?_⟩
  have q : POut K H a p num e toks (grpP true (lst1 toks (wdC true) (fF toks m) i0)) Q E := q
  have hfw : Fwd (fF toks m) := fac_fwd m
  refine ⟨a, p, num, e, toks, i0, m, d, rfl, hn, hdm, hR0, hT, hlen, ?_⟩
  cases hF : fF toks m i0 with
  | error j =>
    unfold lst1 at q
    rw [hF] at q
    exact q
  | ok x =>
    intro H1 v b1 r1 hv
    refine ⟨(by show 1 ≤ sizeLine; decide), fun L nL => ?_⟩
    have sL := same_new (o := .lst [v]) nL
    obtain ⟨C1, dx1, ts1, hC1, ha1, _⟩ := id r1
    have La : L ≠ a := (ne_of_none ha1 nL).symm
    have L0 : H L = none := b1.free La nL
    have hv2 : PAt K (upd H1 L (.lst [v])) (fun b => H b ≠ none ∨ b = L) x.1 v := PAt.more nL hv (Kn.same sL)
    have hxi := hfw _ _ hF
    refine ⟨fun n σ' H' => ∃ (i : Nat) (ys : List Ps) (xs : List V), σ' = [some (.ref a), some (.int d), some (.ref L)] ∧ (∀ b o, b ≠ a → b ≠ L → H b = some o → H' b = some o) ∧ RdAt K H' a p num e toks i ∧ H' L = some (.lst xs) ∧ PAts K H' (fun b => H b ≠ none ∨ b = L) ys xs ∧ ys.length + n ≤ toks.length + 1 ∧ toks.length ≤ i + n ∧
      lst1 toks (wdC true) (fF toks m) i0 = preL ys (chn toks (wdC true) (fF toks m) n i), ⟨toks.length, x.2, [x.1], [v], rfl, fun b o n1 n2 hb => sL _ _ (b1 b o n1 hb), r1.bt sL, upd_same, ?_, by show 1 + _ ≤ _; omega, by omega, ?_⟩, ?_⟩
    · unfold PAts
      exact ⟨v, [], rfl, hv2, by unfold PAts; rfl⟩
    · unfold lst1
      rw [hF]
    rintro n σ' H' ⟨i', ys, xs, rfl, hb, hR, hL, hxs, hyn, hin, heq⟩
    obtain ⟨C2, dx2, ts2, hC2, ha2, hp2, hts2, hi2⟩ := id hR
    cases hC2.symm.trans T.n_Reader
    refine ⟨a, dx2, _, rfl, ha2, rfl, a, p, num, e, toks, i', wd true, rfl, hR, by decide +kernel, ?_⟩
    have bt : Bt a H H' := fun b o n1 hb' => hb b o n1 (ne_of_none hb' L0) hb'
    by_cases hc : tokAt toks i' = wdC true
    · rw [if_pos (show tokAt toks i' = (wd true).cps.toList from hc)]
      have hlt : i' < toks.length := tokAt_lt (by rw [hc]; decide +kernel)
      refine ⟨hlt, fun H2 b2 r2 => ?_⟩
      obtain ⟨C3, dx3, ts3, hC3, ha3, hp3, _⟩ := id r2
      cases hC3.symm.trans T.n_Reader
      have hL2 := b2 _ _ La hL
      have hxs2 := hxs.kn (Kn.bt ha2 b2) fun b h => h
      cases n with
      | zero => omega
      | succ n =>
        refine ⟨fun σ2 H2 => ∃ m', m' < n + 1 ∧ ∃ (i : Nat) (ys : List Ps) (xs : List V), σ2 = [some (.ref a), some (.int d), some (.ref L)] ∧ (∀ b o, b ≠ a → b ≠ L → H b = some o → H2 b = some o) ∧ RdAt K H2 a p num e toks i ∧ H2 L = some (.lst xs) ∧ PAts K H2 (fun b => H b ≠ none ∨ b = L) ys xs ∧ ys.length + m' ≤ toks.length + 1 ∧ toks.length ≤ i + m' ∧
          lst1 toks (wdC true) (fF toks m) i0 = preL ys (chn toks (wdC true) (fF toks m) m' i), fun _ _ h => h, ?_⟩
        refine ⟨.inl ⟨rfl, _, SqL.of hL2⟩, a, p, num, e, toks, i' + 1, m, d, rfl, hn, hdm, hR0.to r2, hT, hlen, ?_⟩
        cases hF2 : fF toks m (i' + 1) with
        | error j =>
          rw [chn_err hc hF2] at heq
          rw [heq] at q
          exact BadB.bt (show BadB K a H num (colAt toks e j) E from q) (bt.trans b2) ⟨_, ha3⟩
        | ok y =>
          have hyi := hfw _ _ hF2
          rw [chn_on hc hF2, preL_pre] at heq
          intro H3 v3 b3 r3 hv3
          have hL3 := b3 _ _ La hL2
          have hxs3 := hxs2.kn (Kn.bt ha3 b3) fun b h => h
          have hxl := hxs.len
          refine ⟨L, _, _, rfl, rfl, hL3, line_lt (by omega), ?_⟩
          have kL : Kn (fun b => H b ≠ none ∨ b = L) H3 (upd H3 L (.lst (xs ++ [v3]))) := Kn.lst hL3 (.inr rfl)
          have hv4 : PAt K (upd H3 L (.lst (xs ++ [v3]))) (fun b => H b ≠ none ∨ b = L) y.1 v3 := (hv3.kn (Kn.same (Same.refl _)) (fun b h => by
            rcases h with h | h
            · cases hh : H b with
              | none => exact absurd hh h
              | some o =>
                by_cases e : b = a
                · rw [e, ha3]
                  exact fun z => nomatch z
                · rw [(bt.trans b2) b o e hh]
                  exact fun z => nomatch z
            · rw [h, hL2]
              exact fun z => nomatch z)).kn kL fun b h => h
          refine ⟨n, by omega, y.2, ys ++ [y.1], xs ++ [v3], rfl, fun b o n1 n2 hb' => ?_, ?_, upd_same, PAts.snoc hv4 (hxs3.kn kL fun b h => h), by rw [List.length_append]; show ys.length + 1 + n ≤ _; omega, by omega, heq⟩
          · rw [upd_ne n2]
            exact b3 _ _ n1 (b2 _ _ n1 (hb b o n1 n2 hb'))
          · obtain ⟨C4, dx4, ts4, hC4, ha4, hp4, hts4, hi4⟩ := r3
            refine ⟨C4, dx4, ts4, hC4, by rw [upd_ne La.symm]; exact ha4, ?_, hts4.same fun b o ho hb' => ?_, hi4⟩
            · rw [upd_ne]
              · exact hp4
              · intro e2
                rw [e2, L0] at hp
                cases hp
            · obtain ⟨z', n', rfl⟩ := ho
              rw [upd_ne (ne_of hb' hL3 (by intro e; cases e))]
              exact hb'
    · rw [if_neg (show ¬ tokAt toks i' = (wd true).cps.toList from hc)]
      rw [chn_stop hc] at heq
      rw [heq] at q
      refine ⟨(by show 2 ≤ sizeLine; decide), fun t nt => ?_⟩
      have st := same_new (o := .tup [.str (wd true), .ref L]) nt
      refine q _ _ (bt.trans (Bt.same st)) (hR.bt st) ?_
      unfold PAt
      refine ⟨t, L, xs, rfl, upd_same, st _ _ hL, fun h => h L0, ?_⟩
      rw [List.append_nil]
      exact hxs.kn (Kn.same st) fun b h => .inl h
end
section
variable {P : Program} {w : World} {K : PySem.W.Frag} {mg : Str → Option Value} {base : Heap}
variable {t_BOUND t_DIGITS t_LETTERS t_LONGEST_INTEGER t_LONGEST_NAME t_MOST_NESTED : Tok} {a_ALWAYS a_MARKS a_NEVER a_OPPOSITES a_RESERVED a_SIGNS a_BadName a_BadNumber a_BadSign a_BadText a_Condition a_ElseputError a_Reader a_TooLarge : Addr}
theorem cd_step {n k : Nat} {f : Addr} {fd : FuncData} {f_Reader_skip : Addr} {fd_Reader_skip : FuncData} {f_parse_conjunction : Addr} {fd_parse_conjunction : FuncData} (F : FunD K "parse_condition" "parse_condition" (defArgs s_parse_condition) (defBody s_parse_condition) (defScope s_parse_condition) [(.int 0)] [] f fd) (T : Gs K mg t_BOUND t_DIGITS t_LETTERS t_LONGEST_INTEGER t_LONGEST_NAME t_MOST_NESTED a_ALWAYS a_MARKS a_NEVER a_OPPOSITES a_RESERVED a_SIGNS a_BadName a_BadNumber a_BadSign a_BadText a_Condition a_ElseputError a_Reader a_TooLarge)
    (c_Reader_skip : CalM P w K mg base CX0 3 a_Reader "skip" f_Reader_skip fd_Reader_skip ["self", "token"] (sp_Reader_skip K)) (c_parse_conjunction : Cal P w K mg base (L2.CX P w) k "parse_conjunction" f_parse_conjunction fd_parse_conjunction ["reader", "depth"] (spP fJ n K)) (hk : 3 ≤ k) : FnOk P w K mg base (L2.CX P w) (k + 1) f fd ["reader", "depth"] (spP fD n K) := by
  refine F.ok (CX := (L2.CX P w)) sc_parse_condition (fun vs H Q E h => len_P h) (fun cdv A outer s H vs Q E hr h => ?_)
  obtain ⟨a, p, num, e, toks, i0, m, d, rfl, hn, hdm, hR0, hT, hlen, q⟩ := h
  obtain ⟨C, dx, ts, hC, ha, hp, hts, hi⟩ := id hR0.1
  cases hC.symm.trans T.n_Reader
  refine ⟨_, (pss_cons (ps_set (i := 2) sc_parse_condition.nd rfl (.inl rfl) (pe_lst (pa_cons (pe_call c_parse_conjunction.G (hr.mono (by first | decide | omega)) rfl c_parse_conjunction.m c_parse_conjunction.kp c_parse_conjunction.b .nil (passes_call (takes_of rfl rfl rfl rfl) (fun _ _ _ _ h => h)) (pa_cons (v_ 0) (pa_cons (v_ 1) pa_nil))) pa_nil))) (pss_cons (ps_while (passes_of rfl) (pt_t K (pe_meth (v_ 0) c_Reader_skip.cl c_Reader_skip.me c_Reader_skip.G (hr.mono (by first | decide | omega)) c_Reader_skip.b .nil pass0 (pa_cons pe_str pa_nil))) (pss_one (ps_expr (pe_bm PySem.F.plainAttrs_list PySem.F.slot_list_append PySem.F.type_list_append mt_append (v_ 2) (pa_cons (pe_call c_parse_conjunction.G (hr.mono (by first | decide | omega)) rfl c_parse_conjunction.m c_parse_conjunction.kp c_parse_conjunction.b .nil (passes_call (takes_of rfl rfl rfl rfl) (fun _ _ _ _ h => h)) (pa_cons (v_ 0) (pa_cons (v_ 1) pa_nil))) pa_nil))))) (pss_one (ps_ret (pe_tup (pa_cons pe_str (pa_cons (v_ 2) pa_nil))))))), ?_⟩
  have q : POut K H a p num e toks (grpP false (lst1 toks (wdC false) (fJ toks m) i0)) Q E := q
  have hfw : Fwd (fJ toks m) := grp_fwd (fac_fwd m)
  refine ⟨a, p, num, e, toks, i0, m, d, rfl, hn, hdm, hR0, hT, hlen, ?_⟩
  cases hF : fJ toks m i0 with
  | error j =>
    unfold lst1 at q
    rw [hF] at q
    exact q
  | ok x =>
    intro H1 v b1 r1 hv
    refine ⟨(by show 1 ≤ sizeLine; decide), fun L nL => ?_⟩
    have sL := same_new (o := .lst [v]) nL
    obtain ⟨C1, dx1, ts1, hC1, ha1, _⟩ := id r1
    have La : L ≠ a := (ne_of_none ha1 nL).symm
    have L0 : H L = none := b1.free La nL
    have hv2 : PAt K (upd H1 L (.lst [v])) (fun b => H b ≠ none ∨ b = L) x.1 v := PAt.more nL hv (Kn.same sL)
    have hxi := hfw _ _ hF
    refine ⟨fun n σ' H' => ∃ (i : Nat) (ys : List Ps) (xs : List V), σ' = [some (.ref a), some (.int d), some (.ref L)] ∧ (∀ b o, b ≠ a → b ≠ L → H b = some o → H' b = some o) ∧ RdAt K H' a p num e toks i ∧ H' L = some (.lst xs) ∧ PAts K H' (fun b => H b ≠ none ∨ b = L) ys xs ∧ ys.length + n ≤ toks.length + 1 ∧ toks.length ≤ i + n ∧
      lst1 toks (wdC false) (fJ toks m) i0 = preL ys (chn toks (wdC false) (fJ toks m) n i), ⟨toks.length, x.2, [x.1], [v], rfl, fun b o n1 n2 hb => sL _ _ (b1 b o n1 hb), r1.bt sL, upd_same, ?_, by show 1 + _ ≤ _; omega, by omega, ?_⟩, ?_⟩
    · unfold PAts
      exact ⟨v, [], rfl, hv2, by unfold PAts; rfl⟩
    · unfold lst1
      rw [hF]
    rintro n σ' H' ⟨i', ys, xs, rfl, hb, hR, hL, hxs, hyn, hin, heq⟩
    obtain ⟨C2, dx2, ts2, hC2, ha2, hp2, hts2, hi2⟩ := id hR
    cases hC2.symm.trans T.n_Reader
    refine ⟨a, dx2, _, rfl, ha2, rfl, a, p, num, e, toks, i', wd false, rfl, hR, by decide +kernel, ?_⟩
    have bt : Bt a H H' := fun b o n1 hb' => hb b o n1 (ne_of_none hb' L0) hb'
    by_cases hc : tokAt toks i' = wdC false
    · rw [if_pos (show tokAt toks i' = (wd false).cps.toList from hc)]
      have hlt : i' < toks.length := tokAt_lt (by rw [hc]; decide +kernel)
      refine ⟨hlt, fun H2 b2 r2 => ?_⟩
      obtain ⟨C3, dx3, ts3, hC3, ha3, hp3, _⟩ := id r2
      cases hC3.symm.trans T.n_Reader
      have hL2 := b2 _ _ La hL
      have hxs2 := hxs.kn (Kn.bt ha2 b2) fun b h => h
      cases n with
      | zero => omega
      | succ n =>
        refine ⟨fun σ2 H2 => ∃ m', m' < n + 1 ∧ ∃ (i : Nat) (ys : List Ps) (xs : List V), σ2 = [some (.ref a), some (.int d), some (.ref L)] ∧ (∀ b o, b ≠ a → b ≠ L → H b = some o → H2 b = some o) ∧ RdAt K H2 a p num e toks i ∧ H2 L = some (.lst xs) ∧ PAts K H2 (fun b => H b ≠ none ∨ b = L) ys xs ∧ ys.length + m' ≤ toks.length + 1 ∧ toks.length ≤ i + m' ∧
          lst1 toks (wdC false) (fJ toks m) i0 = preL ys (chn toks (wdC false) (fJ toks m) m' i), fun _ _ h => h, ?_⟩
        refine ⟨.inl ⟨rfl, _, SqL.of hL2⟩, a, p, num, e, toks, i' + 1, m, d, rfl, hn, hdm, hR0.to r2, hT, hlen, ?_⟩
        cases hF2 : fJ toks m (i' + 1) with
        | error j =>
          rw [chn_err hc hF2] at heq
          rw [heq] at q
          exact BadB.bt (show BadB K a H num (colAt toks e j) E from q) (bt.trans b2) ⟨_, ha3⟩
        | ok y =>
          have hyi := hfw _ _ hF2
          rw [chn_on hc hF2, preL_pre] at heq
          intro H3 v3 b3 r3 hv3
          have hL3 := b3 _ _ La hL2
          have hxs3 := hxs2.kn (Kn.bt ha3 b3) fun b h => h
          have hxl := hxs.len
          refine ⟨L, _, _, rfl, rfl, hL3, line_lt (by omega), ?_⟩
          have kL : Kn (fun b => H b ≠ none ∨ b = L) H3 (upd H3 L (.lst (xs ++ [v3]))) := Kn.lst hL3 (.inr rfl)
          have hv4 : PAt K (upd H3 L (.lst (xs ++ [v3]))) (fun b => H b ≠ none ∨ b = L) y.1 v3 := (hv3.kn (Kn.same (Same.refl _)) (fun b h => by
            rcases h with h | h
            · cases hh : H b with
              | none => exact absurd hh h
              | some o =>
                by_cases e : b = a
                · rw [e, ha3]
                  exact fun z => nomatch z
                · rw [(bt.trans b2) b o e hh]
                  exact fun z => nomatch z
            · rw [h, hL2]
              exact fun z => nomatch z)).kn kL fun b h => h
          refine ⟨n, by omega, y.2, ys ++ [y.1], xs ++ [v3], rfl, fun b o n1 n2 hb' => ?_, ?_, upd_same, PAts.snoc hv4 (hxs3.kn kL fun b h => h), by rw [List.length_append]; show ys.length + 1 + n ≤ _; omega, by omega, heq⟩
          · rw [upd_ne n2]
            exact b3 _ _ n1 (b2 _ _ n1 (hb b o n1 n2 hb'))
          · obtain ⟨C4, dx4, ts4, hC4, ha4, hp4, hts4, hi4⟩ := r3
            refine ⟨C4, dx4, ts4, hC4, by rw [upd_ne La.symm]; exact ha4, ?_, hts4.same fun b o ho hb' => ?_, hi4⟩
            · rw [upd_ne]
              · exact hp4
              · intro e2
                rw [e2, L0] at hp
                cases hp
            · obtain ⟨z', n', rfl⟩ := ho
              rw [upd_ne (ne_of hb' hL3 (by intro e; cases e))]
              exact hb'
    · rw [if_neg (show ¬ tokAt toks i' = (wd false).cps.toList from hc)]
      rw [chn_stop hc] at heq
      rw [heq] at q
      refine ⟨(by show 2 ≤ sizeLine; decide), fun t nt => ?_⟩
      have st := same_new (o := .tup [.str (wd false), .ref L]) nt
      refine q _ _ (bt.trans (Bt.same st)) (hR.bt st) ?_
      unfold PAt
      refine ⟨t, L, xs, rfl, upd_same, st _ _ hL, fun h => h L0, ?_⟩
      rw [List.append_nil]
      exact hxs.kn (Kn.same st) fun b h => .inl h
end
section
variable {P : Program} {w : World} {K : PySem.W.Frag} {mg : Str → Option Value} {base : Heap}
variable {t_BOUND t_DIGITS t_LETTERS t_LONGEST_INTEGER t_LONGEST_NAME t_MOST_NESTED : Tok} {a_ALWAYS a_MARKS a_NEVER a_OPPOSITES a_RESERVED a_SIGNS a_BadName a_BadNumber a_BadSign a_BadText a_Condition a_ElseputError a_Reader a_TooLarge : Addr}
theorem fac_step {n k kf : Nat} {f : Addr} {fd : FuncData} {f_Reader_skip : Addr} {fd_Reader_skip : FuncData} {f_Reader_take_one : Addr} {fd_Reader_take_one : FuncData} {f_Reader_take_name : Addr} {fd_Reader_take_name : FuncData} {f_Reader_take_integer : Addr} {fd_Reader_take_integer : FuncData} {f_parse_condition : Addr} {fd_parse_condition : FuncData} (F : Fun K "parse_factor" "parse_factor" s_parse_factor f fd) (T : Gs K mg t_BOUND t_DIGITS t_LETTERS t_LONGEST_INTEGER t_LONGEST_NAME t_MOST_NESTED a_ALWAYS a_MARKS a_NEVER a_OPPOSITES a_RESERVED a_SIGNS a_BadName a_BadNumber a_BadSign a_BadText a_Condition a_ElseputError a_Reader a_TooLarge)
    (c_Reader_skip : CalM P w K mg base CX0 3 a_Reader "skip" f_Reader_skip fd_Reader_skip ["self", "token"] (sp_Reader_skip K)) (c_Reader_take_one : CalM P w K mg base (L2.CX P w) 5 a_Reader "take_one" f_Reader_take_one fd_Reader_take_one ["self", "words"] (sp_Reader_take_one K)) (c_Reader_take_name : CalM P w K mg base (L2.CX P w) 5 a_Reader "take_name" f_Reader_take_name fd_Reader_take_name ["self"] (sp_Reader_take_name K)) (c_Reader_take_integer : CalM P w K mg base (L2.CX P w) 5 a_Reader "take_integer" f_Reader_take_integer fd_Reader_take_integer ["self"] (sp_Reader_take_integer K)) (c_parse_factor : Cal P w K mg base (L2.CX P w) kf "parse_factor" f fd ["reader", "depth"] (spP fF n K)) (c_parse_condition : CalD P w K mg base (L2.CX P w) k "parse_condition" f_parse_condition fd_parse_condition ["reader", "depth"] [(.int 0)] (spP fD n K))
    (hk : 5 ≤ k) (hkf : kf ≤ k) : FnOk P w K mg base (L2.CX P w) (k + 1) f fd ["reader", "depth"] (spP fF (n + 1) K) := by
  refine F.okX sc_parse_factor (fun vs H Q E h => len_P h) (fun cdv A outer s H vs Q E hr h => ?_)
  obtain ⟨a, p, num, e, toks, i, m, d, rfl, hn, hdm, hR0, hT, hlen, q⟩ := h
  obtain ⟨C, dx, ts, hC, ha, hp, hts, hi⟩ := id hR0.1
  cases hC.symm.trans T.n_Reader
  obtain rfl : m = n := by omega
  refine ⟨_, (pss_cons (ps_if (PW.pt (pw_and (pt_c op_ltM (v_ 1) (pe_glob (v := .int 20) rfl T.g_MOST_NESTED ⟨_, rfl⟩)) (pw_and1 (pt_t K (pe_meth (v_ 0) c_Reader_skip.cl c_Reader_skip.me c_Reader_skip.G (hr.mono (by first | decide | omega)) c_Reader_skip.b .nil pass0 (pa_cons pe_str pa_nil)))))) (pss_one (ps_ret (pe_tup (pa_cons pe_str (pa_cons (pe_call c_parse_factor.G (hr.mono (by first | decide | omega)) rfl c_parse_factor.m c_parse_factor.kp c_parse_factor.b .nil (passes_call (takes_of rfl rfl rfl rfl) (fun _ _ _ _ h => h)) (pa_cons (v_ 0) (pa_cons (pe_op (addK K) (v_ 1) pe_int) pa_nil))) pa_nil))))) pss_nil) (pss_cons (ps_if (PW.pt (pw_and (pt_c op_ltM (v_ 1) (pe_glob (v := .int 20) rfl T.g_MOST_NESTED ⟨_, rfl⟩)) (pw_and1 (pt_t K (pe_meth (v_ 0) c_Reader_skip.cl c_Reader_skip.me c_Reader_skip.G (hr.mono (by first | decide | omega)) c_Reader_skip.b .nil pass0 (pa_cons pe_str pa_nil)))))) (pss_cons (ps_set (i := 4) sc_parse_factor.nd rfl (.inl rfl) (pe_call c_parse_condition.G (hr.mono (by first | decide | omega)) rfl c_parse_condition.m c_parse_condition.kp c_parse_condition.b .nil (passes_call (takes_of rfl rfl rfl rfl) (fun _ _ _ _ h => h)) (pa_cons (v_ 0) (pa_cons (pe_op (addK K) (v_ 1) pe_int) pa_nil)))) (pss_cons (ps_expr (pe_meth (v_ 0) c_Reader_take_one.cl c_Reader_take_one.me c_Reader_take_one.G (hr.mono (by first | decide | omega)) c_Reader_take_one.b .nil (passes_call (takes_of rfl rfl rfl rfl) (fun _ _ _ _ h => h)) (pa_cons (pe_tup (pa_cons pe_str pa_nil)) pa_nil))) (pss_one (ps_ret (v_ 4))))) pss_nil) (pss_cons (ps_if (pt_t K (pe_meth (v_ 0) c_Reader_skip.cl c_Reader_skip.me c_Reader_skip.G (hr.mono (by first | decide | omega)) c_Reader_skip.b .nil pass0 (pa_cons pe_str pa_nil))) (pss_one (ps_ret (pe_glob (v := .ref a_ALWAYS) rfl T.g_ALWAYS rfl))) pss_nil) (pss_cons (ps_if (pt_t K (pe_meth (v_ 0) c_Reader_skip.cl c_Reader_skip.me c_Reader_skip.G (hr.mono (by first | decide | omega)) c_Reader_skip.b .nil pass0 (pa_cons pe_str pa_nil))) (pss_one (ps_ret (pe_glob (v := .ref a_NEVER) rfl T.g_NEVER rfl))) pss_nil) (pss_cons (ps_set (i := 2) sc_parse_factor.nd rfl (.inl rfl) (pe_meth0 (v_ 0) c_Reader_take_name.cl c_Reader_take_name.me c_Reader_take_name.G (hr.mono (by first | decide | omega)) c_Reader_take_name.b .nil (passes_call (takes_of rfl rfl rfl rfl) (fun _ _ _ _ h => h)))) (pss_cons (ps_set (i := 3) sc_parse_factor.nd rfl (.inl rfl) (pe_meth (v_ 0) c_Reader_take_one.cl c_Reader_take_one.me c_Reader_take_one.G (hr.mono (by first | decide | omega)) c_Reader_take_one.b .nil (passes_call (takes_of rfl rfl rfl rfl) (fun _ _ _ _ h => h)) (pa_cons (pe_glob (v := .ref a_SIGNS) rfl T.g_SIGNS rfl) pa_nil))) (pss_one (ps_ret (pe_tup (pa_cons pe_str (pa_cons (v_ 2) (pa_cons (v_ 3) (pa_cons (pe_meth0 (v_ 0) c_Reader_take_integer.cl c_Reader_take_integer.me c_Reader_take_integer.G (hr.mono (by first | decide | omega)) c_Reader_take_integer.b .nil (passes_call (takes_of rfl rfl rfl rfl) (fun _ _ _ _ h => h))) pa_nil))))))))))))), ?_⟩
  cases m with
  | zero =>
    refine ite2 (fun e1 => ?_) (fun _ => ?_)
    · have e1 : d < 20 := of_decide_eq_true e1
      omega
    refine ite2 (fun e => nomatch e) (fun _ => ?_)
    refine ite2 (fun e1 => ?_) (fun _ => ?_)
    · have e1 : d < 20 := of_decide_eq_true e1
      omega
    refine ite2 (fun e => nomatch e) (fun _ => ?_)
    have qb : POut K H a p num e toks (basP toks i) Q E := q
    unfold basP at qb
    refine ⟨a, dx, _, rfl, ha, rfl, a, p, num, e, toks, i, "always", rfl, hR0.1, by decide +kernel, ?_⟩
    by_cases hA : tokAt toks i = ("always" : Str).cps.toList
    · rw [if_pos hA] at qb ⊢
      refine ⟨tokAt_lt (by rw [hA]; decide +kernel), fun H2 b2 r2 => ?_⟩
      refine qb H2 _ b2 r2 ?_
      show PAt K H2 _ (.leaf .tt) _
      unfold PAt
      exact ⟨_, rfl, T.q_ALWAYS _⟩
    rw [if_neg hA] at qb ⊢
    refine ⟨a, dx, _, rfl, ha, rfl, a, p, num, e, toks, i, "never", rfl, hR0.1, by decide +kernel, ?_⟩
    by_cases hB : tokAt toks i = ("never" : Str).cps.toList
    · rw [if_pos hB] at qb ⊢
      refine ⟨tokAt_lt (by rw [hB]; decide +kernel), fun H2 b2 r2 => ?_⟩
      refine qb H2 _ b2 r2 ?_
      show PAt K H2 _ (.leaf .ff) _
      unfold PAt
      exact ⟨_, rfl, T.q_NEVER _⟩
    rw [if_neg hB] at qb ⊢
    refine ⟨a, dx, _, rfl, ha, rfl, a, p, num, e, toks, i, rfl, hR0, ?_⟩
    by_cases hn : isName (mkS (tokAt toks i)) = true
    · rw [if_pos hn] at qb ⊢
      refine ⟨tokAt_lt fun h => by rw [h] at hn; exact absurd hn (by decide +kernel), fun H2 b2 r2 => ?_⟩
      obtain ⟨C2, dx2, ts2, hC2, ha2, _⟩ := id r2
      cases hC2.symm.trans T.n_Reader
      refine ⟨a, dx2, _, rfl, ha2, rfl, a, p, a_SIGNS, num, e, toks, i + 1, signs, rfl, hR0.to r2, T.q_SIGNS _, ?_⟩
      by_cases hs : mkS (tokAt toks (i + 1)) ∈ signs
      · rw [if_pos hs] at qb ⊢
        refine ⟨tokAt_lt fun h => by rw [h] at hs; exact absurd hs (by decide +kernel), fun H3 b3 r3 => ?_⟩
        obtain ⟨C3, dx3, ts3, hC3, ha3, _⟩ := id r3
        cases hC3.symm.trans T.n_Reader
        refine ⟨a, dx3, _, rfl, ha3, rfl, a, p, num, e, toks, i + 1 + 1, rfl, hR0.to r3, hT _, ?_⟩
        cases hr : rdI (tokAt toks (i + 2)) with
        | none =>
          rw [hr] at qb
          exact BadB.at (show BadB K a H num (colAt toks e (i + 2)) E from qb) (b2.trans b3) ha3
        | some n =>
          rw [hr] at qb
          refine ⟨tokAt_lt fun h => by
            rw [show i + 1 + 1 = i + 2 from rfl] at h
            rw [h] at hr
            exact absurd (rdI_spec hr).1 fun h2 => int_text_ne n (by rw [← h2]; rfl), fun H4 b4 r4 => ⟨(by show 4 ≤ sizeLine; decide), fun t nt => ?_⟩⟩
          have st := same_new (o := .tup [.str "compare", .str (mkS (tokAt toks i)), .str (mkS (tokAt toks (i + 1))), .int n]) nt
          obtain ⟨C4, dx4, ts4, hC4, ha4, _⟩ := id r4
          refine qb _ _ (((b2.trans b3).trans b4).trans (Bt.same st)) (r4.bt st) ?_
          show PAt K _ _ (.leaf (.cmp _ _ n)) _
          unfold PAt
          exact ⟨t, rfl, SqT.of upd_same⟩
      · rw [if_neg hs] at qb ⊢
        exact BadB.at (show BadB K a H num (colAt toks e (i + 1)) E from qb) b2 ha2
    · rw [if_neg hn] at qb ⊢
      exact BadB.at (show BadB K a H num (colAt toks e i) E from qb) (Bt.refl a H) ha
  | succ m =>
    have q : POut K H a p num e toks (facP toks (m + 1) i) Q E := q
    unfold facP at q
    refine ite2 (fun _ => ?_) (fun e1 => ?_)
    · refine ⟨a, dx, _, rfl, ha, rfl, a, p, num, e, toks, i, "not", rfl, hR0.1, by decide +kernel, ?_⟩
      by_cases hA : tokAt toks i = ("not" : Str).cps.toList
      · rw [if_pos hA] at q ⊢
        refine ⟨tokAt_lt (by rw [hA]; decide +kernel), fun H2 b2 r2 => ?_⟩
        obtain ⟨C2, dx2, ts2, hC2, ha2, _⟩ := id r2
        refine ⟨a, p, num, e, toks, i + 1, m, d + 1, rfl, rfl, by omega, hR0.to r2, hT, hlen, ?_⟩
        have hff : fF toks m (i + 1) = facP toks m (i + 1) := rfl
        rw [hff]
        cases hF : facP toks m (i + 1) with
        | error j =>
          rw [hF] at q
          exact BadB.bt (show BadB K a H num (colAt toks e j) E from q) b2 ⟨_, ha2⟩
        | ok x =>
          rw [hF] at q
          intro H3 v b3 r3 hv
          refine ⟨(by show 2 ≤ sizeLine; decide), fun t nt => ?_⟩
          have st := same_new (o := .tup [.str "not", v]) nt
          refine q _ _ ((b2.trans b3).trans (Bt.same st)) (r3.bt st) ?_
          show PAt K _ _ (.neg x.1) _
          unfold PAt
          exact ⟨t, v, rfl, upd_same, hv.kn (Kn.same st) fun b h => by
            cases hh : H b with
            | none => exact absurd hh h
            | some o =>
              by_cases e : b = a
              · rw [e, ha2]
                exact fun z => nomatch z
              · rw [b2 b o e hh]
                exact fun z => nomatch z⟩
      rw [if_neg hA] at q ⊢
      refine ite2 (fun e => nomatch e) (fun _ => ?_)
      refine ite2 (fun _ => ?_) (fun e1 => ?_)
      · refine ⟨a, dx, _, rfl, ha, rfl, a, p, num, e, toks, i, "(", rfl, hR0.1, by decide +kernel, ?_⟩
        have hpc : ("(" : Str).cps.toList = [40] := by decide +kernel
        by_cases hB : tokAt toks i = [40]
        · rw [if_pos hB] at q
          rw [if_pos (by rw [hpc]; exact hB)]
          refine ⟨tokAt_lt (by rw [hB]; decide), fun H2 b2 r2 => ?_⟩
          obtain ⟨C2, dx2, ts2, hC2, ha2, _⟩ := id r2
          refine ⟨a, p, num, e, toks, i + 1, m, d + 1, rfl, rfl, by omega, hR0.to r2, hT, hlen, ?_⟩
          have hff : fD toks m (i + 1) = cdP toks (facP toks m) (i + 1) := rfl
          rw [hff]
          cases hF : cdP toks (facP toks m) (i + 1) with
          | error j =>
            rw [hF] at q
            exact BadB.bt (show BadB K a H num (colAt toks e j) E from q) b2 ⟨_, ha2⟩
          | ok x =>
            rw [hF] at q
            intro H3 v b3 r3 hv
            obtain ⟨C3, dx3, ts3, hC3, ha3, _⟩ := id r3
            cases hC3.symm.trans T.n_Reader
            refine ⟨a, dx3, _, rfl, ha3, rfl, (by show 1 ≤ sizeLine; decide), fun t nt => ?_⟩
            have st := same_new (o := .tup ([(")" : Str)].map V.str)) nt
            refine ⟨a, p, t, num, e, toks, x.2, [")"], rfl, (hR0.to r3).same st, SqT.of upd_same, ?_⟩
            have q : POut K H a p num e toks (if tokAt toks x.2 = [41] then Except.ok (x.1, x.2 + 1) else Except.error x.2 : PO) Q E := q
            have hcl : mkS (tokAt toks x.2) ∈ ([(")" : Str)] : List Str) ↔ tokAt toks x.2 = [41] := by
              rw [List.mem_singleton, str_eq, mkS_cps]
              rw [show (")" : Str).cps.toList = [41] from by decide +kernel]
            by_cases hC : tokAt toks x.2 = [41]
            · rw [if_pos hC] at q
              rw [if_pos (hcl.mpr hC)]
              refine ⟨tokAt_lt (by rw [hC]; decide), fun H4 b4 r4 => ?_⟩
              refine q _ _ (((b2.trans b3).trans (Bt.same st)).trans b4) r4 ?_
              exact hv.kn ((Kn.same st).trans (Kn.bt (st _ _ ha3) b4)) fun b h => by
                cases hh : H b with
                | none => exact absurd hh h
                | some o =>
                  by_cases e : b = a
                  · rw [e, ha2]
                    exact fun z => nomatch z
                  · rw [b2 b o e hh]
                    exact fun z => nomatch z
            · rw [if_neg hC] at q
              rw [if_neg (fun h => hC (hcl.mp h))]
              exact BadB.at (show BadB K a H num (colAt toks e x.2) E from q) ((b2.trans b3).trans (Bt.same st)) (st _ _ ha3)
        rw [if_neg hB] at q
        rw [if_neg (by rw [hpc]; exact hB)]
        refine ite2 (fun e => nomatch e) (fun _ => ?_)
        have qb : POut K H a p num e toks (basP toks i) Q E := q
        unfold basP at qb
        refine ⟨a, dx, _, rfl, ha, rfl, a, p, num, e, toks, i, "always", rfl, hR0.1, by decide +kernel, ?_⟩
        by_cases hA : tokAt toks i = ("always" : Str).cps.toList
        · rw [if_pos hA] at qb ⊢
          refine ⟨tokAt_lt (by rw [hA]; decide +kernel), fun H2 b2 r2 => ?_⟩
          refine qb H2 _ b2 r2 ?_
          show PAt K H2 _ (.leaf .tt) _
          unfold PAt
          exact ⟨_, rfl, T.q_ALWAYS _⟩
        rw [if_neg hA] at qb ⊢
        refine ⟨a, dx, _, rfl, ha, rfl, a, p, num, e, toks, i, "never", rfl, hR0.1, by decide +kernel, ?_⟩
        by_cases hB : tokAt toks i = ("never" : Str).cps.toList
        · rw [if_pos hB] at qb ⊢
          refine ⟨tokAt_lt (by rw [hB]; decide +kernel), fun H2 b2 r2 => ?_⟩
          refine qb H2 _ b2 r2 ?_
          show PAt K H2 _ (.leaf .ff) _
          unfold PAt
          exact ⟨_, rfl, T.q_NEVER _⟩
        rw [if_neg hB] at qb ⊢
        refine ⟨a, dx, _, rfl, ha, rfl, a, p, num, e, toks, i, rfl, hR0, ?_⟩
        by_cases hn : isName (mkS (tokAt toks i)) = true
        · rw [if_pos hn] at qb ⊢
          refine ⟨tokAt_lt fun h => by rw [h] at hn; exact absurd hn (by decide +kernel), fun H2 b2 r2 => ?_⟩
          obtain ⟨C2, dx2, ts2, hC2, ha2, _⟩ := id r2
          cases hC2.symm.trans T.n_Reader
          refine ⟨a, dx2, _, rfl, ha2, rfl, a, p, a_SIGNS, num, e, toks, i + 1, signs, rfl, hR0.to r2, T.q_SIGNS _, ?_⟩
          by_cases hs : mkS (tokAt toks (i + 1)) ∈ signs
          · rw [if_pos hs] at qb ⊢
            refine ⟨tokAt_lt fun h => by rw [h] at hs; exact absurd hs (by decide +kernel), fun H3 b3 r3 => ?_⟩
            obtain ⟨C3, dx3, ts3, hC3, ha3, _⟩ := id r3
            cases hC3.symm.trans T.n_Reader
            refine ⟨a, dx3, _, rfl, ha3, rfl, a, p, num, e, toks, i + 1 + 1, rfl, hR0.to r3, hT _, ?_⟩
            cases hr : rdI (tokAt toks (i + 2)) with
            | none =>
              rw [hr] at qb
              exact BadB.at (show BadB K a H num (colAt toks e (i + 2)) E from qb) (b2.trans b3) ha3
            | some n =>
              rw [hr] at qb
              refine ⟨tokAt_lt fun h => by
                rw [show i + 1 + 1 = i + 2 from rfl] at h
                rw [h] at hr
                exact absurd (rdI_spec hr).1 fun h2 => int_text_ne n (by rw [← h2]; rfl), fun H4 b4 r4 => ⟨(by show 4 ≤ sizeLine; decide), fun t nt => ?_⟩⟩
              have st := same_new (o := .tup [.str "compare", .str (mkS (tokAt toks i)), .str (mkS (tokAt toks (i + 1))), .int n]) nt
              obtain ⟨C4, dx4, ts4, hC4, ha4, _⟩ := id r4
              refine qb _ _ (((b2.trans b3).trans b4).trans (Bt.same st)) (r4.bt st) ?_
              show PAt K _ _ (.leaf (.cmp _ _ n)) _
              unfold PAt
              exact ⟨t, rfl, SqT.of upd_same⟩
          · rw [if_neg hs] at qb ⊢
            exact BadB.at (show BadB K a H num (colAt toks e (i + 1)) E from qb) b2 ha2
        · rw [if_neg hn] at qb ⊢
          exact BadB.at (show BadB K a H num (colAt toks e i) E from qb) (Bt.refl a H) ha
      · have e1 : ¬ d < 20 := of_decide_eq_false (Bool.eq_false_iff.mpr e1)
        omega
    · have e1 : ¬ d < 20 := of_decide_eq_false (Bool.eq_false_iff.mpr e1)
      omega
theorem fac_all {f : Addr} {fd : FuncData} {f_Reader_skip : Addr} {fd_Reader_skip : FuncData} {f_Reader_take_one : Addr} {fd_Reader_take_one : FuncData} {f_Reader_take_name : Addr} {fd_Reader_take_name : FuncData} {f_Reader_take_integer : Addr} {fd_Reader_take_integer : FuncData} {f2 : Addr} {fd2 : FuncData} {f3 : Addr} {fd3 : FuncData} (F : Fun K "parse_factor" "parse_factor" s_parse_factor f fd) (T : Gs K mg t_BOUND t_DIGITS t_LETTERS t_LONGEST_INTEGER t_LONGEST_NAME t_MOST_NESTED a_ALWAYS a_MARKS a_NEVER a_OPPOSITES a_RESERVED a_SIGNS a_BadName a_BadNumber a_BadSign a_BadText a_Condition a_ElseputError a_Reader a_TooLarge)
    (c_Reader_skip : CalM P w K mg base CX0 3 a_Reader "skip" f_Reader_skip fd_Reader_skip ["self", "token"] (sp_Reader_skip K)) (c_Reader_take_one : CalM P w K mg base (L2.CX P w) 5 a_Reader "take_one" f_Reader_take_one fd_Reader_take_one ["self", "words"] (sp_Reader_take_one K)) (c_Reader_take_name : CalM P w K mg base (L2.CX P w) 5 a_Reader "take_name" f_Reader_take_name fd_Reader_take_name ["self"] (sp_Reader_take_name K)) (c_Reader_take_integer : CalM P w K mg base (L2.CX P w) 5 a_Reader "take_integer" f_Reader_take_integer fd_Reader_take_integer ["self"] (sp_Reader_take_integer K)) (b : Binds K fd ["reader", "depth"] []) (kp : PySem.W.keepIn K (.ref f) = true) (m : mg "parse_factor" = some (.ref f))
    (F2 : Fun K "parse_conjunction" "parse_conjunction" s_parse_conjunction f2 fd2) (b2 : Binds K fd2 ["reader", "depth"] []) (kp2 : PySem.W.keepIn K (.ref f2) = true) (m2 : mg "parse_conjunction" = some (.ref f2))
    (F3 : FunD K "parse_condition" "parse_condition" (defArgs s_parse_condition) (defBody s_parse_condition) (defScope s_parse_condition) [(.int 0)] [] f3 fd3) (b3 : Binds K fd3 ["reader", "depth"] []) (kp3 : PySem.W.keepIn K (.ref f3) = true) (m3 : mg "parse_condition" = some (.ref f3)) (bd3 : ∃ ds, Vals [(.int 0)] ds ∧ Binds K fd3 ["reader", "depth"] ds) :
    ∀ n : Nat, FnOk P w K mg base (L2.CX P w) (3 * n + 6) f fd ["reader", "depth"] (spP fF n K)
  | 0 => ⟨fun _ _ _ _ h => len_P h, by
    intro A outer s H args us vs Q E _ _ _ _ h
    obtain ⟨_, _, _, _, _, _, m, _, _, h, _⟩ := h
    exact absurd h (by omega)⟩
  | n + 1 => by
    have ih := fac_all F T c_Reader_skip c_Reader_take_one c_Reader_take_name c_Reader_take_integer b kp m F2 b2 kp2 m2 F3 b3 kp3 m3 bd3 n
    have h2 := cj_step F2 T c_Reader_skip ⟨ih, b, kp, m⟩ (by omega)
    have h3 := cd_step F3 T c_Reader_skip ⟨h2, b2, kp2, m2⟩ (by omega)
    exact fac_step F T c_Reader_skip c_Reader_take_one c_Reader_take_name c_Reader_take_integer ⟨ih, b, kp, m⟩ ⟨⟨h3, b3, kp3, m3⟩, bd3⟩ (by omega) (by omega)
noncomputable def sp_parse_factor : PySem.W.Frag → Sp := spP fF 21
noncomputable def sp_parse_conjunction : PySem.W.Frag → Sp := spP fJ 21
noncomputable def sp_parse_condition : PySem.W.Frag → Sp := spP fD 21
end
section
variable {P : Program} {w : World} {K : PySem.W.Frag} {mg : Str → Option Value} {base : Heap}
variable {t_BOUND t_DIGITS t_LETTERS t_LONGEST_INTEGER t_LONGEST_NAME t_MOST_NESTED : Tok} {a_ALWAYS a_MARKS a_NEVER a_OPPOSITES a_RESERVED a_SIGNS a_BadName a_BadNumber a_BadSign a_BadText a_Condition a_ElseputError a_Reader a_TooLarge : Addr}
theorem ok_parse_factor {f : Addr} {fd : FuncData} {f_Reader_skip : Addr} {fd_Reader_skip : FuncData} {f_Reader_take_one : Addr} {fd_Reader_take_one : FuncData} {f_Reader_take_name : Addr} {fd_Reader_take_name : FuncData} {f_Reader_take_integer : Addr} {fd_Reader_take_integer : FuncData} {f2 : Addr} {fd2 : FuncData} {f3 : Addr} {fd3 : FuncData} (F : Fun K "parse_factor" "parse_factor" s_parse_factor f fd) (T : Gs K mg t_BOUND t_DIGITS t_LETTERS t_LONGEST_INTEGER t_LONGEST_NAME t_MOST_NESTED a_ALWAYS a_MARKS a_NEVER a_OPPOSITES a_RESERVED a_SIGNS a_BadName a_BadNumber a_BadSign a_BadText a_Condition a_ElseputError a_Reader a_TooLarge)
    (c_Reader_skip : CalM P w K mg base CX0 3 a_Reader "skip" f_Reader_skip fd_Reader_skip ["self", "token"] (sp_Reader_skip K)) (c_Reader_take_one : CalM P w K mg base (L2.CX P w) 5 a_Reader "take_one" f_Reader_take_one fd_Reader_take_one ["self", "words"] (sp_Reader_take_one K)) (c_Reader_take_name : CalM P w K mg base (L2.CX P w) 5 a_Reader "take_name" f_Reader_take_name fd_Reader_take_name ["self"] (sp_Reader_take_name K)) (c_Reader_take_integer : CalM P w K mg base (L2.CX P w) 5 a_Reader "take_integer" f_Reader_take_integer fd_Reader_take_integer ["self"] (sp_Reader_take_integer K)) (b : Binds K fd ["reader", "depth"] []) (kp : PySem.W.keepIn K (.ref f) = true) (m : mg "parse_factor" = some (.ref f))
    (F2 : Fun K "parse_conjunction" "parse_conjunction" s_parse_conjunction f2 fd2) (b2 : Binds K fd2 ["reader", "depth"] []) (kp2 : PySem.W.keepIn K (.ref f2) = true) (m2 : mg "parse_conjunction" = some (.ref f2))
    (F3 : FunD K "parse_condition" "parse_condition" (defArgs s_parse_condition) (defBody s_parse_condition) (defScope s_parse_condition) [(.int 0)] [] f3 fd3) (b3 : Binds K fd3 ["reader", "depth"] []) (kp3 : PySem.W.keepIn K (.ref f3) = true) (m3 : mg "parse_condition" = some (.ref f3)) (bd3 : ∃ ds, Vals [(.int 0)] ds ∧ Binds K fd3 ["reader", "depth"] ds) :
    FnOk P w K mg base (L2.CX P w) 69 f fd ["reader", "depth"] (sp_parse_factor K) := fac_all F T c_Reader_skip c_Reader_take_one c_Reader_take_name c_Reader_take_integer b kp m F2 b2 kp2 m2 F3 b3 kp3 m3 bd3 21
theorem ok_parse_conjunction {f : Addr} {fd : FuncData} {f_Reader_skip : Addr} {fd_Reader_skip : FuncData} {f_parse_factor : Addr} {fd_parse_factor : FuncData} (F : Fun K "parse_conjunction" "parse_conjunction" s_parse_conjunction f fd) (T : Gs K mg t_BOUND t_DIGITS t_LETTERS t_LONGEST_INTEGER t_LONGEST_NAME t_MOST_NESTED a_ALWAYS a_MARKS a_NEVER a_OPPOSITES a_RESERVED a_SIGNS a_BadName a_BadNumber a_BadSign a_BadText a_Condition a_ElseputError a_Reader a_TooLarge) (c_Reader_skip : CalM P w K mg base CX0 3 a_Reader "skip" f_Reader_skip fd_Reader_skip ["self", "token"] (sp_Reader_skip K)) (c_parse_factor : Cal P w K mg base (L2.CX P w) 69 "parse_factor" f_parse_factor fd_parse_factor ["reader", "depth"] (sp_parse_factor K)) :
    FnOk P w K mg base (L2.CX P w) 70 f fd ["reader", "depth"] (sp_parse_conjunction K) := cj_step F T c_Reader_skip c_parse_factor (by omega)
theorem ok_parse_condition {f : Addr} {fd : FuncData} {f_Reader_skip : Addr} {fd_Reader_skip : FuncData} {f_parse_conjunction : Addr} {fd_parse_conjunction : FuncData} (F : FunD K "parse_condition" "parse_condition" (defArgs s_parse_condition) (defBody s_parse_condition) (defScope s_parse_condition) [(.int 0)] [] f fd) (T : Gs K mg t_BOUND t_DIGITS t_LETTERS t_LONGEST_INTEGER t_LONGEST_NAME t_MOST_NESTED a_ALWAYS a_MARKS a_NEVER a_OPPOSITES a_RESERVED a_SIGNS a_BadName a_BadNumber a_BadSign a_BadText a_Condition a_ElseputError a_Reader a_TooLarge) (c_Reader_skip : CalM P w K mg base CX0 3 a_Reader "skip" f_Reader_skip fd_Reader_skip ["self", "token"] (sp_Reader_skip K)) (c_parse_conjunction : Cal P w K mg base (L2.CX P w) 70 "parse_conjunction" f_parse_conjunction fd_parse_conjunction ["reader", "depth"] (sp_parse_conjunction K)) :
    FnOk P w K mg base (L2.CX P w) 71 f fd ["reader", "depth"] (sp_parse_condition K) := cd_step F T c_Reader_skip c_parse_conjunction (by omega)
end
section
variable {P : Program} {w : World} {K : PySem.W.Frag} {mg : Str → Option Value} {base : Heap}
variable {t_BOUND t_DIGITS t_LETTERS t_LONGEST_INTEGER t_LONGEST_NAME t_MOST_NESTED : Tok} {a_ALWAYS a_MARKS a_NEVER a_OPPOSITES a_RESERVED a_SIGNS a_BadName a_BadNumber a_BadSign a_BadText a_Condition a_ElseputError a_Reader a_TooLarge : Addr}
/-! ### conditions by the law -/
def Tr.pure : Tr → Prop
  | .cmp _ _ _ => True
  | .con _ l r => l.pure ∧ r.pure
  | _ => False
theorem is_pure {t : Tr} (h : t.pure) (b : Bool) : t.is b = false := by
  cases t with
  | tt => exact h.elim
  | ff => exact h.elim
  | cmp _ _ _ => rfl
  | con _ _ _ => rfl
theorem joinT_pure {w : Bool} {l r : Tr} (hl : l.pure) (hr : r.pure) : joinT w l r = .con w l r := by
  unfold joinT
  rw [is_pure hl, is_pure hr, is_pure hl, is_pure hr]
  rfl
theorem pure_depth : ∀ {t : Tr}, t.pure → t.depth + 1 ≤ t.cs.length
  | .cmp _ _ _, _ => Nat.le_refl _
  | .con _ l r, h => by
    have h1 := pure_depth h.1
    have h2 := pure_depth h.2
    show max l.depth r.depth + 1 + 1 ≤ (l.cs ++ r.cs).length
    rw [List.length_append]
    omega
structure Tg (t : Tr) : Prop where
  g : Gd t
  c : t.cs.length ≤ 8
  p : t.pure ∨ t = .tt ∨ t = .ff
theorem tg_pure {t : Tr} (h : t.pure) (ho : t.ok) (hc : t.cs.length ≤ 8) : Tg t := ⟨⟨ho, by have := pure_depth h; omega, by omega⟩, hc, .inl h⟩
theorem tg_tt : Tg .tt := ⟨⟨(fun _ h => nomatch h), by decide, by decide⟩, by decide, .inr (.inl rfl)⟩
theorem tg_ff : Tg .ff := ⟨⟨(fun _ h => nomatch h), by decide, by decide⟩, by decide, .inr (.inr rfl)⟩
/-- conditions made of trees -/
def MsAt (K : PySem.W.Frag) (H : Hp) (ms : List V) (ts : List Tr) : Prop := ms.length = ts.length ∧ ∀ (i : Nat) (t : Tr), ts[i]? = some t → ∃ a : Addr, ms[i]? = some (V.ref a) ∧ CnAt K H a t
theorem MsAt.same {K : PySem.W.Frag} {H H' : Hp} {xs : List V} {ts : List Tr} (h : MsAt K H xs ts) (s : Same H H') : MsAt K H' xs ts := ⟨h.1, fun i t ht => by
  obtain ⟨v, e, q⟩ := h.2 i t ht
  exact ⟨v, e, q.same s⟩⟩
theorem MsAt.bt {K : PySem.W.Frag} {H H' : Hp} {st : Addr} {xs : List V} {ts : List Tr} (h : MsAt K H xs ts) (hs : ∃ l, H st = some (.lst l)) (s : Bt st H H') : MsAt K H' xs ts := ⟨h.1, fun i t ht => by
  obtain ⟨v, e, q⟩ := h.2 i t ht
  exact ⟨v, e, q.bt hs s⟩⟩
theorem MsAt.snoc {K : PySem.W.Frag} {H : Hp} {xs : List V} {ts : List Tr} {a : Addr} {t : Tr} (h : MsAt K H xs ts) (k : CnAt K H a t) : MsAt K H (xs ++ [.ref a]) (ts ++ [t]) := ⟨by rw [List.length_append, List.length_append, h.1]; rfl, fun i c hc => by
  by_cases e : i < ts.length
  · rw [List.getElem?_append_left e] at hc
    rw [List.getElem?_append_left (by rw [h.1]; exact e)]
    exact h.2 i c hc
  · rw [List.getElem?_append_right (by omega)] at hc
    rw [List.getElem?_append_right (by rw [h.1]; omega), h.1]
    match i - ts.length, hc with
    | 0, hc => cases hc; exact ⟨a, rfl, k⟩⟩
/-! ### the condition built of what was parsed -/
def Lf : Tr → Prop
  | .con _ _ _ => False
  | _ => True
mutual
def PsG : Ps → Prop
  | .leaf t => Tg t ∧ Lf t
  | .neg p => PsG p
  | .grp _ l => PsGs l ∧ l.length ≤ 1000 ∧ l ≠ []
def PsGs : List Ps → Prop
  | [] => True
  | p :: l => PsG p ∧ PsGs l
end
mutual
def Ps.dp : Ps → Nat
  | .leaf _ => 0
  | .neg p => p.dp + 1
  | .grp _ l => Ps.dps l + 1
def Ps.dps : List Ps → Nat
  | [] => 0
  | p :: l => max p.dp (Ps.dps l)
end
def foldT (w : Bool) : Tr → List Tr → Option Tr
  | t, [] => some t
  | t, u :: r => if (joinT w t u).cs.length ≤ 8 then foldT w (joinT w t u) r else none
def foldL (w : Bool) : List Tr → Option Tr
  | [] => none
  | t :: r => foldT w t r
mutual
def bld : Ps → Option Tr
  | .leaf t => some t
  | .neg p => (bld p).map oppT
  | .grp w l => (blds l).bind (foldL w)
def blds : List Ps → Option (List Tr)
  | [] => some []
  | p :: l => (bld p).bind fun t => (blds l).map fun r => t :: r
end
theorem opp_pure : ∀ {t : Tr}, t.pure → (oppT t).pure
  | .cmp _ _ _, _ => True.intro
  | .con _ _ _, h => ⟨opp_pure h.1, opp_pure h.2⟩
theorem Tg.opp {t : Tr} (h : Tg t) : Tg (oppT t) := ⟨oppT_gd h.g, by rw [oppT_cs, List.length_map]; exact h.c, by
  rcases h.p with p | rfl | rfl
  · exact .inl (opp_pure p)
  · exact .inr (.inr rfl)
  · exact .inr (.inl rfl)⟩
theorem Tg.join {w : Bool} {l r : Tr} (hl : Tg l) (hr : Tg r) (hc : (joinT w l r).cs.length ≤ 8) : Tg (joinT w l r) := by
  unfold joinT at hc ⊢
  split
  · cases w
    · exact tg_tt
    · exact tg_ff
  rename_i h1
  rw [if_neg h1] at hc
  split
  · exact hr
  rename_i h2
  rw [if_neg h2] at hc
  split
  · exact hl
  rename_i h3
  rw [if_neg h3] at hc
  rw [Bool.or_eq_true, not_or] at h1
  have pl : l.pure := by
    rcases hl.p with p | rfl | rfl
    · exact p
    · cases w
      · exact absurd rfl h1.1
      · exact absurd rfl h2
    · cases w
      · exact absurd rfl h2
      · exact absurd rfl h1.1
  have pr : r.pure := by
    rcases hr.p with p | rfl | rfl
    · exact p
    · cases w
      · exact absurd rfl h1.2
      · exact absurd rfl h3
    · cases w
      · exact absurd rfl h3
      · exact absurd rfl h1.2
  refine tg_pure ⟨pl, pr⟩ (fun c hc => ?_) hc
  rcases List.mem_append.mp hc with h | h
  · exact hl.g.ok c h
  · exact hr.g.ok c h
theorem fold_tg {w : Bool} : ∀ {l : List Tr} {t u : Tr}, Tg t → (∀ x ∈ l, Tg x) → foldT w t l = some u → Tg u
  | [], t, u, ht, _, h => by cases h; exact ht
  | x :: l, t, u, ht, hl, h => by
    unfold foldT at h
    split at h
    · rename_i hc
      exact fold_tg (ht.join (hl x List.mem_cons_self) hc) (fun y hy => hl y (List.mem_cons_of_mem _ hy)) h
    · cases h
mutual
theorem bld_tg : ∀ {p : Ps} {t : Tr}, PsG p → bld p = some t → Tg t
  | .leaf t, u, h, e => by
    unfold PsG at h
    unfold bld at e
    cases e
    exact h.1
  | .neg p, u, h, e => by
    unfold PsG at h
    unfold bld at e
    obtain ⟨t, e1, rfl⟩ := Option.map_eq_some_iff.mp e
    exact (bld_tg h e1).opp
  | .grp w l, u, h, e => by
    unfold PsG at h
    unfold bld at e
    obtain ⟨ts, e1, e2⟩ := Option.bind_eq_some_iff.mp e
    have hts := blds_tg h.1 e1
    cases ts with
    | nil => cases e2
    | cons t r => exact fold_tg (hts t List.mem_cons_self) (fun y hy => hts y (List.mem_cons_of_mem _ hy)) e2
theorem blds_tg : ∀ {l : List Ps} {ts : List Tr}, PsGs l → blds l = some ts → ∀ t ∈ ts, Tg t
  | [], ts, _, e => by
    unfold blds at e
    cases e
    exact fun t h => nomatch h
  | p :: l, ts, h, e => by
    unfold PsGs at h
    unfold blds at e
    obtain ⟨t, e1, e2⟩ := Option.bind_eq_some_iff.mp e
    obtain ⟨r, e3, rfl⟩ := Option.map_eq_some_iff.mp e2
    intro x hx
    rcases List.mem_cons.mp hx with rfl | hx
    · exact bld_tg h.1 e1
    · exact blds_tg h.2 e3 x hx
end
theorem blds_get : ∀ {l : List Ps} {ts : List Tr}, blds l = some ts → ts.length = l.length ∧ ∀ (i : Nat) (p : Ps), l[i]? = some p → ∃ t, ts[i]? = some t ∧ bld p = some t
  | [], ts, e => by
    unfold blds at e
    cases e
    exact ⟨rfl, fun i p h => nomatch h⟩
  | q :: l, ts, e => by
    unfold blds at e
    obtain ⟨t, e1, e2⟩ := Option.bind_eq_some_iff.mp e
    obtain ⟨r, e3, rfl⟩ := Option.map_eq_some_iff.mp e2
    obtain ⟨h1, h2⟩ := blds_get e3
    refine ⟨by rw [List.length_cons, List.length_cons, h1], fun i p hp => ?_⟩
    cases i with
    | zero => cases hp; exact ⟨t, rfl, e1⟩
    | succ i => exact h2 i p hp
theorem PsGs.get : ∀ {l : List Ps}, PsGs l → ∀ (i : Nat) (p : Ps), l[i]? = some p → PsG p
  | [], _, i, p, h => nomatch h
  | q :: l, k, i, p, h => by
    unfold PsGs at k
    cases i with
    | zero => cases h; exact k.1
    | succ i => exact PsGs.get k.2 i p h
theorem dps_get : ∀ {l : List Ps} (i : Nat) (p : Ps), l[i]? = some p → p.dp ≤ Ps.dps l
  | [], i, p, h => nomatch h
  | q :: l, i, p, h => by
    unfold Ps.dps
    cases i with
    | zero => cases h; exact Nat.le_max_left _ _
    | succ i => exact Nat.le_trans (dps_get i p h) (Nat.le_max_right _ _)
theorem PAts.get {K : PySem.W.Frag} {N : Addr → Prop} {H : Hp} : ∀ {l : List Ps} {xs : List V}, PAts K H N l xs → ∀ (i : Nat) (p : Ps), l[i]? = some p → ∃ x, xs[i]? = some x ∧ PAt K H N p x
  | [], xs, k, i, p, h => nomatch h
  | q :: l, xs, k, i, p, h => by
    unfold PAts at k
    obtain ⟨x, r, rfl, h1, h2⟩ := k
    cases i with
    | zero => cases h; exact ⟨x, rfl, h1⟩
    | succ i => exact PAts.get h2 i p h
theorem blds_one {p : Ps} {t : Tr} (h : bld p = some t) : blds [p] = some [t] := by
  unfold blds
  rw [h]
  show Option.map _ (blds []) = _
  unfold blds
  rfl
theorem blds_snoc {p : Ps} {u : Tr} (h : bld p = some u) : ∀ {l : List Ps} {ts : List Tr}, blds l = some ts → blds (l ++ [p]) = some (ts ++ [u])
  | [], ts, k => by
    unfold blds at k
    cases k
    exact blds_one h
  | q :: l, ts, k => by
    unfold blds at k
    obtain ⟨t, e1, e2⟩ := Option.bind_eq_some_iff.mp k
    obtain ⟨r, e3, rfl⟩ := Option.map_eq_some_iff.mp e2
    show blds (q :: (l ++ [p])) = _
    unfold blds
    rw [e1, blds_snoc h e3]
    rfl
theorem blds_none {p : Ps} (h : bld p = none) : ∀ {l : List Ps}, p ∈ l → blds l = none
  | q :: l, hm => by
    unfold blds
    rcases List.mem_cons.mp hm with rfl | hm
    · rw [h]
      rfl
    · rw [blds_none h hm]
      cases bld q <;> rfl
/-- what is built, or TooLarge -/
def BldO (K : PySem.W.Frag) (H : Hp) (o : Option Tr) (Q : VK) (E : XK) : Prop := match o with
  | some t => ∀ (H' : Hp) (a : Addr), Same H H' → CnAt K H' a t → Q (.ref a) H'
  | none => BigO K H E
def sp_join_all (K : PySem.W.Frag) : Sp := fun vs H Q E => ∃ (w : Bool) (p : Addr) (ms : List V) (ts : List Tr), vs = [.str (wd w), .ref p] ∧ H p = some (.lst ms) ∧ MsAt K H ms ts ∧ (∀ x ∈ ts, Tg x) ∧ ms.length ≤ 50000 ∧ ts ≠ [] ∧ BldO K H (foldL w ts) Q E
theorem len_join_all {vs : List V} {H : Hp} {Q : VK} {E : XK} (h : sp_join_all K vs H Q E) : vs.length = 2 := by
  obtain ⟨_, _, _, _, rfl, _⟩ := h
  rfl
end
section
variable {P : Program} {w : World} {K : PySem.W.Frag} {mg : Str → Option Value} {base : Heap}
variable {t_BOUND t_DIGITS t_LETTERS t_LONGEST_INTEGER t_LONGEST_NAME t_MOST_NESTED : Tok} {a_ALWAYS a_MARKS a_NEVER a_OPPOSITES a_RESERVED a_SIGNS a_BadName a_BadNumber a_BadSign a_BadText a_Condition a_ElseputError a_Reader a_TooLarge : Addr}
theorem cutV_take (xs : List V) {k : Int} (h : 0 ≤ k) : cutV xs none (some k) = xs.take k.toNat := by
  unfold cutV
  have e := HT.sIx_nat xs.length xs.length k.toNat
  rw [show ((k.toNat : Nat) : Int) = k by omega] at e
  rw [e, HT.sIx_none, List.drop_zero]
  by_cases hk : k.toNat ≤ xs.length
  · rw [Nat.min_eq_left hk, Nat.sub_zero]
  · rw [Nat.min_eq_right (by omega), Nat.sub_zero, List.take_length, List.take_of_length_le (by omega)]
theorem cutV_drop (xs : List V) {k : Int} (h : 0 ≤ k) : cutV xs (some k) none = xs.drop k.toNat := by
  unfold cutV
  have e := HT.sIx_nat xs.length 0 k.toNat
  rw [show ((k.toNat : Nat) : Int) = k by omega] at e
  rw [e, HT.sIx_none]
  by_cases hk : k.toNat ≤ xs.length
  · rw [Nat.min_eq_left hk, List.take_of_length_le (by rw [List.length_drop]; omega)]
  · rw [Nat.min_eq_right (by omega), List.drop_of_length_le (Nat.le_refl _), List.drop_of_length_le (by omega)]
    exact List.take_nil
theorem ok_join_all {f : Addr} {fd : FuncData} {f_Condition___and__ : Addr} {fd_Condition___and__ : FuncData} {f_Condition___or__ : Addr} {fd_Condition___or__ : FuncData} (F : Fun K "join_all" "join_all" s_join_all f fd) (T : Gs K mg t_BOUND t_DIGITS t_LETTERS t_LONGEST_INTEGER t_LONGEST_NAME t_MOST_NESTED a_ALWAYS a_MARKS a_NEVER a_OPPOSITES a_RESERVED a_SIGNS a_BadName a_BadNumber a_BadSign a_BadText a_Condition a_ElseputError a_Reader a_TooLarge) (c_Condition___and__ : CalO P w K mg base (L2.CX P w) 26 a_Condition .BitAnd f_Condition___and__ fd_Condition___and__ ["self", "other"] (sp_Condition___and__ K)) (c_Condition___or__ : CalO P w K mg base (L2.CX P w) 26 a_Condition .BitOr f_Condition___or__ fd_Condition___or__ ["self", "other"] (sp_Condition___or__ K)) : FnOk P w K mg base (L2.CX P w) 27 f fd ["word", "parts"] (sp_join_all K) := by
  refine F.okX sc_join_all (fun vs H Q E h => len_join_all h) (fun cdv A outer s H vs Q E hr h => ?_)
  obtain ⟨w, p, ms, ts, rfl, hp, hms, hg, hl, hne, q⟩ := h
  refine ⟨_, (pss_cons (ps_set (i := 2) sc_join_all.nd rfl (.inl rfl) (e_x K (v_ 1) pe_int)) (pss_cons (ps_for (passes_of rfl) rfl (pi_list (pe_slice (slK K) (v_ 1) (po_some pe_int) po_none)) (pg_name (i := 3) sc_join_all.nd rfl (.inl rfl)) (pss_one (ps_set (i := 2) sc_join_all.nd rfl (.inl rfl) (pe_ifExp (pt_c (eqK K hr.units) (v_ 0) pe_str) (pe_op (op_own c_Condition___and__.op c_Condition___and__.G (hr.mono (by first | decide | omega)) c_Condition___and__.b (passes_call (takes_of rfl rfl rfl rfl) (fun _ _ _ _ h => h))) (v_ 2) (v_ 3)) (pe_op (op_own c_Condition___or__.op c_Condition___or__.G (hr.mono (by first | decide | omega)) c_Condition___or__.b (passes_call (takes_of rfl rfl rfl rfl) (fun _ _ _ _ h => h))) (v_ 2) (v_ 3)))))) (pss_one (ps_ret (v_ 2))))), ?_⟩
  cases ts with
  | nil => exact absurd rfl hne
  | cons t0 r =>
    obtain ⟨o, hf⟩ : ∃ o, foldT w t0 r = o := ⟨_, rfl⟩
    have q : BldO K H o Q E := by rw [← hf]; exact q
    obtain ⟨a0, e0, h0⟩ := hms.2 0 t0 rfl
    refine ⟨_, .inl (SqL.of hp), .ref a0, atI_nat (j := 0) e0, ?_⟩
    refine ⟨_, rfl, .inl ⟨_, SqL.of hp, fun S nS => ?_⟩⟩
    rw [cutV_drop _ (by decide)]
    have sS := same_new (o := .lst (ms.drop 1)) nS
    have hS := upd_same (H := H) (a := S) (o := .lst (ms.drop 1))
    have ml := hms.1
    rw [List.length_cons] at ml
    refine ⟨S, rfl, ⟨_, SqL.of hS⟩, ?_⟩
    refine for_list (K := K) (a := S) (xs := ms.drop 1) (fun i σ' H' => ∃ (a : Addr) (acc : Tr) (y : Option V), σ' = [some (.str (wd w)), some (.ref p), some (.ref a), y] ∧ Same (upd H S (.lst (ms.drop 1))) H' ∧ CnAt K H' a acc ∧ Tg acc ∧ foldT w acc (r.drop i) = o) ⟨a0, t0, _, rfl, Same.refl _, h0.same sS, hg t0 List.mem_cons_self, hf⟩ (fun i σ' H' hi ⟨_, _, _, _, s, _⟩ => SqL.of (s _ _ hS)) ?_ ?_
    · rintro i v σ' H' hi ⟨a, acc, y, rfl, s, hA, ga, hff⟩
      rw [List.getElem?_drop] at hi
      have il : i < r.length := by
        have := (List.getElem?_eq_some_iff.mp hi).1
        omega
      obtain ⟨u, eu⟩ : ∃ u, r[i]? = some u := ⟨_, List.getElem?_eq_getElem il⟩
      obtain ⟨b, eb, hb⟩ := hms.2 (1 + i) u (by rw [Nat.add_comm]; exact eu)
      rw [eb] at hi
      cases hi
      have hB := hb.same (sS.trans s)
      have gu := hg u (List.mem_cons_of_mem _ (List.mem_of_getElem? eu))
      have hd : r.drop i = u :: r.drop (i + 1) := by
        obtain ⟨h1, h2⟩ := List.getElem?_eq_some_iff.mp eu
        rw [List.drop_eq_getElem_cons h1, h2]
      rw [hd] at hff
      unfold foldT at hff
      obtain ⟨C, dx, u1, x1, ss, hC, ha, _⟩ := id hA
      cases hC.symm.trans T.n_Condition
      obtain ⟨C, dy, u2, x2, ss2, hC, hb', _⟩ := id hB
      cases hC.symm.trans T.n_Condition
      by_cases hc : (joinT w acc u).cs.length ≤ 8
      · rw [if_pos hc] at hff
        have gj := ga.join gu hc
        cases w with
        | true =>
          refine ⟨a, b, dx, _, dy, _, rfl, rfl, ha, hb', a, b, acc, u, rfl, hA, hB, ga.g, gu.g, ?_⟩
          unfold JoinO
          rw [if_pos hc]
          exact fun H2 c s2 nc h2 => ⟨c, _, _, rfl, s.trans s2, h2, gj, hff⟩
        | false =>
          refine ⟨a, b, dx, _, dy, _, rfl, rfl, ha, hb', a, b, acc, u, rfl, hA, hB, ga.g, gu.g, ?_⟩
          unfold JoinO
          rw [if_pos hc]
          exact fun H2 c s2 nc h2 => ⟨c, _, _, rfl, s.trans s2, h2, gj, hff⟩
      · rw [if_neg hc] at hff
        subst hff
        have big : BigO K H E := q
        cases w with
        | true =>
          refine ⟨a, b, dx, _, dy, _, rfl, rfl, ha, hb', a, b, acc, u, rfl, hA, hB, ga.g, gu.g, ?_⟩
          unfold JoinO
          rw [if_neg hc]
          exact big.same (sS.trans s)
        | false =>
          refine ⟨a, b, dx, _, dy, _, rfl, rfl, ha, hb', a, b, acc, u, rfl, hA, hB, ga.g, gu.g, ?_⟩
          unfold JoinO
          rw [if_neg hc]
          exact big.same (sS.trans s)
    · rintro σ' H' ⟨a, acc, y, rfl, s, hA, ga, hff⟩
      rw [List.length_drop, List.drop_of_length_le (by omega)] at hff
      cases hff
      have q : ∀ (H' : Hp) (a : Addr), Same H H' → CnAt K H' a acc → Q (.ref a) H' := q
      exact q H' a (sS.trans s) hA
def spBld (n : Nat) : PySem.W.Frag → Sp := fun K vs H Q E => ∃ (v : V) (ps : Ps) (N : Addr → Prop), vs = [v] ∧ PAt K H N ps v ∧ ps.dp < n ∧ PsG ps ∧ BldO K H (bld ps) Q E
end
section
variable {P : Program} {w : World} {K : PySem.W.Frag} {mg : Str → Option Value} {base : Heap}
variable {t_BOUND t_DIGITS t_LETTERS t_LONGEST_INTEGER t_LONGEST_NAME t_MOST_NESTED : Tok} {a_ALWAYS a_MARKS a_NEVER a_OPPOSITES a_RESERVED a_SIGNS a_BadName a_BadNumber a_BadSign a_BadText a_Condition a_ElseputError a_Reader a_TooLarge : Addr}
theorem len_bld {n : Nat} {vs : List V} {H : Hp} {Q : VK} {E : XK} (h : spBld n K vs H Q E) : vs.length = 1 := by
  obtain ⟨_, _, _, rfl, _⟩ := h
  rfl
def headS : Tr → Str
  | .tt => "always"
  | .ff => "never"
  | .cmp _ _ _ => "compare"
  | .con w _ _ => wd w
theorem TAt.head {H : Hp} : ∀ {t : Tr} {v : V}, TAt K H t v → ∃ (a : Addr) (xs : List V), v = .ref a ∧ SqT K H a (.str (headS t) :: xs)
  | .tt, _, ⟨a, e, h⟩ => ⟨a, [], e, h⟩
  | .ff, _, ⟨a, e, h⟩ => ⟨a, [], e, h⟩
  | .cmp f s n, _, ⟨a, e, h⟩ => ⟨a, [.str f, .str s, .int n], e, h⟩
  | .con _ _ _, _, ⟨a, x, y, e, h, _⟩ => ⟨a, [x, y], e, h⟩
theorem lf_head {t : Tr} (h : Lf t) : decide (headS t = "not") = false ∧ decide (headS t = "and") = false ∧ decide (headS t = "or") = false := by
  cases t with
  | tt => exact (by decide +kernel : decide (("always" : Str) = "not") = false ∧ decide (("always" : Str) = "and") = false ∧ decide (("always" : Str) = "or") = false)
  | ff => exact (by decide +kernel : decide (("never" : Str) = "not") = false ∧ decide (("never" : Str) = "and") = false ∧ decide (("never" : Str) = "or") = false)
  | cmp f s n => exact (by decide +kernel : decide (("compare" : Str) = "not") = false ∧ decide (("compare" : Str) = "and") = false ∧ decide (("compare" : Str) = "or") = false)
  | con w l r => exact h.elim
theorem bld_step {n k : Nat} {f : Addr} {fd : FuncData} {f_join_all : Addr} {fd_join_all : FuncData} {f_Condition___invert__ : Addr} {fd_Condition___invert__ : FuncData} {f_Condition___init__ : Addr} {fd_Condition___init__ : FuncData} (F : Fun K "build_condition" "build_condition" s_build_condition f fd) (T : Gs K mg t_BOUND t_DIGITS t_LETTERS t_LONGEST_INTEGER t_LONGEST_NAME t_MOST_NESTED a_ALWAYS a_MARKS a_NEVER a_OPPOSITES a_RESERVED a_SIGNS a_BadName a_BadNumber a_BadSign a_BadText a_Condition a_ElseputError a_Reader a_TooLarge)
    (c_join_all : Cal P w K mg base (L2.CX P w) 27 "join_all" f_join_all fd_join_all ["word", "parts"] (sp_join_all K)) (c_Condition___invert__ : CalInv P w K mg base CX0 25 a_Condition f_Condition___invert__ fd_Condition___invert__ ["self"] (sp_Condition___invert__ K)) (c_Condition___init__ : CalI P w K mg base CX0 23 "Condition" a_Condition f_Condition___init__ fd_Condition___init__ ["self", "tree"] (sp_Condition___init__ K)) (c_build_condition : Cal P w K mg base (L2.CX P w) k "build_condition" f fd ["parsed"] (spBld n K)) (hk : 28 ≤ k) : FnOk P w K mg base (L2.CX P w) (k + 1) f fd ["parsed"] (spBld (n + 1) K) := by
  refine F.okX sc_build_condition (fun vs H Q E h => len_bld h) (fun cdv A outer s H vs Q E hr h => ?_)
  obtain ⟨v, ps, N, rfl, hv, hd, hg, q⟩ := h
  refine ⟨_, (pss_cons (ps_set (i := 1) sc_build_condition.nd rfl (.inl rfl) (e_x K (v_ 0) pe_int)) (pss_cons (ps_if (pt_c (eqK K hr.units) (v_ 1) pe_str) (pss_one (ps_ret (pe_un (un_own c_Condition___invert__.iv c_Condition___invert__.G (hr.mono (by first | decide | omega)) c_Condition___invert__.b pass0) (pe_call c_build_condition.G (hr.mono (by first | decide | omega)) rfl c_build_condition.m c_build_condition.kp c_build_condition.b .nil (passes_call (takes_of rfl rfl rfl rfl) (fun _ _ _ _ h => h)) (pa_cons (e_x K (v_ 0) pe_int) pa_nil))))) pss_nil) (pss_cons (ps_if (PW.pt (pw_or (pt_c (eqK K hr.units) (v_ 1) pe_str) (pw_or1 (pt_c (eqK K hr.units) (v_ 1) pe_str)))) (pss_one (ps_ret (pe_call c_join_all.G (hr.mono (by first | decide | omega)) rfl c_join_all.m c_join_all.kp c_join_all.b .nil (passes_call (takes_of rfl rfl rfl rfl) (fun _ _ _ _ h => h)) (pa_cons (v_ 1) (pa_cons (pe_lcX (own := [("part", 2)]) (g := gName 2) (by rfl) sc_build_condition.nd rfl rfl (takes_of rfl rfl rfl rfl) (pi_list (e_x K (v_ 0) pe_int)) (blkOk_by (N := ["parsed", "word", "part"]) (sc := defScope s_build_condition) (by decide +kernel)) (fun _ _ _ _ _ _ => pg_name (i := 2) sc_build_condition.nd rfl (Or.inl rfl)) (fun _ _ _ _ _ _ => pts_nil) (fun _ _ _ _ _ _ px => (pe_call c_build_condition.G (hr.mono (by first | decide | omega)) rfl c_build_condition.m c_build_condition.kp c_build_condition.b .nil px (pa_cons (v_ 2) pa_nil)))) pa_nil))))) pss_nil) (pss_one (ps_ret (pe_make c_Condition___init__.mkc c_Condition___init__.G (hr.mono (by first | decide | omega)) rfl c_Condition___init__.m c_Condition___init__.b .nil pass0 (pa_cons (v_ 0) pa_nil))))))), ?_⟩
  cases ps with
  | leaf t =>
    unfold PAt at hv
    unfold PsG at hg
    unfold bld at q
    have q : ∀ (H' : Hp) (a : Addr), Same H H' → CnAt K H' a t → Q (.ref a) H' := q
    obtain ⟨a, xs, rfl, ha⟩ := hv.head
    obtain ⟨l1, l2, l3⟩ := lf_head hg.2
    have g1 := hg.1.g.dp
    have g2 := hg.1.g.cs
    refine ⟨_, .inr ha, .str (headS t), atI_nat (j := 0) rfl, ?_⟩
    refine ite2 (fun e => absurd (l1.symm.trans e) (by decide)) (fun _ => ?_)
    refine ite2 (fun e => absurd (l2.symm.trans e) (by decide)) (fun _ => ?_)
    refine ite2 (fun e => absurd (l3.symm.trans e) (by decide)) (fun _ => ?_)
    intro c dc nc ndc nec
    have sk := same_mk (C := a_Condition) nc ndc
    refine ⟨c, a_Condition, dc, _, t, rfl, T.n_Condition, upd_same, hv.same sk, by omega, by omega, fun H3 b hA => ⟨rfl, ?_⟩⟩
    exact q H3 c (fun b2 o hb2 => b b2 o (ne_of_none hb2 nc) (sk _ _ hb2)) hA
  | neg p =>
    unfold PAt at hv
    unfold PsG at hg
    unfold Ps.dp at hd
    obtain ⟨a, x, rfl, ha, hx⟩ := hv
    have i1 : atI [V.str "not", x] (1 : Int) = some x := rfl
    refine ⟨_, .inr (SqT.of ha), .str "not", rfl, ?_⟩
    refine ⟨_, .inr (SqT.of ha), x, i1, x, p, N, rfl, hx, by omega, hg, ?_⟩
    unfold bld at q
    cases hu : bld p with
    | none =>
      rw [hu] at q
      exact q
    | some u =>
      rw [hu] at q
      have q : ∀ (H' : Hp) (a : Addr), Same H H' → CnAt K H' a (oppT u) → Q (.ref a) H' := q
      have gu := bld_tg hg hu
      intro H1 b s1 hA
      obtain ⟨C, dx, u1, x1, ss, hC, hb', _⟩ := id hA
      cases hC.symm.trans T.n_Condition
      exact ⟨b, dx, _, rfl, hb', b, u, rfl, hA, gu.g, fun H2 c s2 nc h2 => q H2 c (s1.trans s2) h2⟩
  | grp b l =>
    unfold PAt at hv
    unfold PsG at hg
    unfold Ps.dp at hd
    obtain ⟨a, L, xs, rfl, ha, hL, hN, hxs⟩ := hv
    have xl := hxs.len
    have i1 : atI [V.str (wd b), V.ref L] (1 : Int) = some (.ref L) := rfl
    have fin : ∀ (H' : Hp) (M : Addr) (ms : List V) (ts : List Tr), Same H H' → H' M = some (.lst ms) → MsAt K H' ms ts → blds l = some ts → sp_join_all K [.str (wd b), .ref M] H' Q E := fun H' M ms ts s hM hms hts => by
      have tl := (blds_get hts).1
      refine ⟨b, M, ms, ts, rfl, hM, hms, blds_tg hg.1 hts, by have := hms.1; have := hg.2.1; omega, fun e => ?_, ?_⟩
      · rw [e] at tl
        exact hg.2.2 (List.length_eq_zero_iff.mp tl.symm)
      · unfold bld at q
        rw [hts] at q
        have q : BldO K H (foldL b ts) Q E := q
        cases e : foldL b ts with
        | none =>
          rw [e] at q
          exact BigO.same q s
        | some t =>
          rw [e] at q
          have q : ∀ (H' : Hp) (a : Addr), Same H H' → CnAt K H' a t → Q (.ref a) H' := q
          exact fun H2 c s2 hc => q H2 c (s.trans s2) hc
    have turn : ∀ (M : Addr) (nM : H M = none) (i : Nat) (v2 : V) (H2 : Hp) (ms : List V) (ts : List Tr), i < xs.length → Same H H2 → H2 M = some (.lst ms) → MsAt K H2 ms ts → blds (l.take i) = some ts → xs[i]? = some v2 →
        spBld n K [v2] H2 (fun y H4 => ∃ acc, H4 M = some (.lst acc) ∧ acc.length < sizeLine ∧ (Same H (upd H4 M (.lst (acc ++ [y]))) ∧ ∃ (ms : List V) (ts : List Tr), (upd H4 M (.lst (acc ++ [y]))) M = some (.lst ms) ∧ MsAt K (upd H4 M (.lst (acc ++ [y]))) ms ts ∧ blds (l.take (i + 1)) = some ts)) E := fun M nM i v2 H2 ms ts hi s2 hM hms hts hv2 => by
      obtain ⟨p, ep⟩ : ∃ p, l[i]? = some p := ⟨_, List.getElem?_eq_getElem (by omega)⟩
      obtain ⟨x, ex, hx⟩ := hxs.get i p ep
      rw [ex] at hv2
      cases hv2
      have hdp := dps_get i p ep
      refine ⟨v2, p, N, rfl, hx.kn (Kn.same s2) fun b h => h, by omega, hg.1.get i p ep, ?_⟩
      cases hu : bld p with
      | none =>
        unfold bld at q
        rw [blds_none hu (List.mem_of_getElem? ep)] at q
        exact BigO.same q s2
      | some u =>
        intro H4 c s4 hc
        have hM4 := s4 _ _ hM
        have hl2 := hg.2.1
        have tl := (blds_get hts).1
        refine ⟨ms, hM4, line_lt (by rw [hms.1, tl, List.length_take]; omega), fun b o hb => ?_, ms ++ [.ref c], ts ++ [u], upd_same, ?_, ?_⟩
        · rw [upd_ne (ne_of_none hb nM)]
          exact s4 _ _ (s2 _ _ hb)
        · exact ((hms.same s4).bt ⟨_, hM4⟩ Bt.st).snoc (hc.bt ⟨_, hM4⟩ Bt.st)
        · rw [take_snoc ep]
          exact blds_snoc hu hts
    have h0 : blds (l.take 0) = some [] := by
      rw [List.take_zero]
      unfold blds
      rfl
    cases b with
    | true =>
      refine ⟨_, .inr (SqT.of ha), .str "and", rfl, ?_⟩
      refine ⟨_, .inr (SqT.of ha), .ref L, i1, L, rfl, ⟨_, SqL.of hL⟩, fun M nM => ?_⟩
      refine lc_it (walk_list (xs := xs)) (fun i H' => Same H H' ∧ ∃ (ms : List V) (ts : List Tr), H' M = some (.lst ms) ∧ MsAt K H' ms ts ∧ blds (l.take i) = some ts) ⟨same_new nM, [], [], upd_same, ⟨rfl, fun i t h => nomatch h⟩, h0⟩ (fun _ _ _ h => SqL.of (h.1 _ _ hL)) ?_ ?_
      · rintro i v2 H2 H3 hi ⟨s2, ms, ts, hM, hms, hts⟩ ⟨rfl, hv2⟩
        exact ⟨rfl, turn M nM i v2 H3 ms ts hi s2 hM hms hts hv2⟩
      · rintro H2 ⟨s2, ms, ts, hM, hms, hts⟩
        rw [xl, List.take_length] at hts
        exact fin H2 M ms ts s2 hM hms hts
    | false =>
      refine ⟨_, .inr (SqT.of ha), .str "or", rfl, ?_⟩
      refine ⟨_, .inr (SqT.of ha), .ref L, i1, L, rfl, ⟨_, SqL.of hL⟩, fun M nM => ?_⟩
      refine lc_it (walk_list (xs := xs)) (fun i H' => Same H H' ∧ ∃ (ms : List V) (ts : List Tr), H' M = some (.lst ms) ∧ MsAt K H' ms ts ∧ blds (l.take i) = some ts) ⟨same_new nM, [], [], upd_same, ⟨rfl, fun i t h => nomatch h⟩, h0⟩ (fun _ _ _ h => SqL.of (h.1 _ _ hL)) ?_ ?_
      · rintro i v2 H2 H3 hi ⟨s2, ms, ts, hM, hms, hts⟩ ⟨rfl, hv2⟩
        exact ⟨rfl, turn M nM i v2 H3 ms ts hi s2 hM hms hts hv2⟩
      · rintro H2 ⟨s2, ms, ts, hM, hms, hts⟩
        rw [xl, List.take_length] at hts
        exact fin H2 M ms ts s2 hM hms hts
theorem bld_all {f : Addr} {fd : FuncData} {f_join_all : Addr} {fd_join_all : FuncData} {f_Condition___invert__ : Addr} {fd_Condition___invert__ : FuncData} {f_Condition___init__ : Addr} {fd_Condition___init__ : FuncData} (F : Fun K "build_condition" "build_condition" s_build_condition f fd) (T : Gs K mg t_BOUND t_DIGITS t_LETTERS t_LONGEST_INTEGER t_LONGEST_NAME t_MOST_NESTED a_ALWAYS a_MARKS a_NEVER a_OPPOSITES a_RESERVED a_SIGNS a_BadName a_BadNumber a_BadSign a_BadText a_Condition a_ElseputError a_Reader a_TooLarge)
    (c_join_all : Cal P w K mg base (L2.CX P w) 27 "join_all" f_join_all fd_join_all ["word", "parts"] (sp_join_all K)) (c_Condition___invert__ : CalInv P w K mg base CX0 25 a_Condition f_Condition___invert__ fd_Condition___invert__ ["self"] (sp_Condition___invert__ K)) (c_Condition___init__ : CalI P w K mg base CX0 23 "Condition" a_Condition f_Condition___init__ fd_Condition___init__ ["self", "tree"] (sp_Condition___init__ K)) (b : Binds K fd ["parsed"] []) (kp : PySem.W.keepIn K (.ref f) = true) (m : mg "build_condition" = some (.ref f)) : ∀ n : Nat, FnOk P w K mg base (L2.CX P w) (n + 30) f fd ["parsed"] (spBld n K)
  | 0 => ⟨fun _ _ _ _ h => len_bld h, by
    intro A outer s H args us vs Q E _ _ _ _ h
    obtain ⟨_, _, _, _, _, h, _⟩ := h
    exact absurd h (Nat.not_lt_zero _)⟩
  | n + 1 => bld_step F T c_join_all c_Condition___invert__ c_Condition___init__ ⟨bld_all F T c_join_all c_Condition___invert__ c_Condition___init__ b kp m n, b, kp, m⟩ (by omega)
def sp_build_condition : PySem.W.Frag → Sp := spBld 50
theorem ok_build_condition {f : Addr} {fd : FuncData} {f_join_all : Addr} {fd_join_all : FuncData} {f_Condition___invert__ : Addr} {fd_Condition___invert__ : FuncData} {f_Condition___init__ : Addr} {fd_Condition___init__ : FuncData} (F : Fun K "build_condition" "build_condition" s_build_condition f fd) (T : Gs K mg t_BOUND t_DIGITS t_LETTERS t_LONGEST_INTEGER t_LONGEST_NAME t_MOST_NESTED a_ALWAYS a_MARKS a_NEVER a_OPPOSITES a_RESERVED a_SIGNS a_BadName a_BadNumber a_BadSign a_BadText a_Condition a_ElseputError a_Reader a_TooLarge)
    (c_join_all : Cal P w K mg base (L2.CX P w) 27 "join_all" f_join_all fd_join_all ["word", "parts"] (sp_join_all K)) (c_Condition___invert__ : CalInv P w K mg base CX0 25 a_Condition f_Condition___invert__ fd_Condition___invert__ ["self"] (sp_Condition___invert__ K)) (c_Condition___init__ : CalI P w K mg base CX0 23 "Condition" a_Condition f_Condition___init__ fd_Condition___init__ ["self", "tree"] (sp_Condition___init__ K)) (b : Binds K fd ["parsed"] []) (kp : PySem.W.keepIn K (.ref f) = true) (m : mg "build_condition" = some (.ref f)) : FnOk P w K mg base (L2.CX P w) 80 f fd ["parsed"] (sp_build_condition K) := bld_all F T c_join_all c_Condition___invert__ c_Condition___init__ b kp m 50
end
section
variable {P : Program} {w : World} {K : PySem.W.Frag} {mg : Str → Option Value} {base : Heap}
variable {t_BOUND t_DIGITS t_LETTERS t_LONGEST_INTEGER t_LONGEST_NAME t_MOST_NESTED : Tok} {a_ALWAYS a_MARKS a_NEVER a_OPPOSITES a_RESERVED a_SIGNS a_BadName a_BadNumber a_BadSign a_BadText a_Condition a_ElseputError a_Reader a_TooLarge : Addr}
/-! ### what is read is small -/
theorem chn_g {toks : Tks} {W : List Nat} {f : Nat → PO} {P : Ps → Prop} (hf : ∀ i x, f i = .ok x → P x.1) : ∀ {n i : Nat} {x : List Ps × Nat}, chn toks W f n i = .ok x → (∀ p ∈ x.1, P p) ∧ x.1.length ≤ n
  | 0, i, x, h => by
    cases h
    exact ⟨(fun p h => nomatch h), Nat.le_refl _⟩
  | n + 1, i, x, h => by
    unfold chn at h
    split at h
    · cases hi : f (i + 1) with
      | error j => rw [hi] at h; cases h
      | ok y =>
        rw [hi] at h
        have h : preL [y.1] (chn toks W f n y.2) = .ok x := h
        cases hc : chn toks W f n y.2 with
        | error j => rw [hc] at h; cases h
        | ok z =>
          rw [hc] at h
          cases h
          obtain ⟨h1, h2⟩ := chn_g hf hc
          refine ⟨fun p hp => ?_, Nat.succ_le_succ h2⟩
          rcases List.mem_cons.mp hp with rfl | hp
          · exact hf _ _ hi
          · exact h1 p hp
    · cases h
      exact ⟨(fun p h => nomatch h), Nat.zero_le _⟩
theorem lst1_g {toks : Tks} {W : List Nat} {f : Nat → PO} {P : Ps → Prop} (hf : ∀ i x, f i = .ok x → P x.1) {i : Nat} {x : List Ps × Nat} (h : lst1 toks W f i = .ok x) : (∀ p ∈ x.1, P p) ∧ x.1.length ≤ toks.length + 1 ∧ x.1 ≠ [] := by
  unfold lst1 at h
  cases hi : f i with
  | error j => rw [hi] at h; cases h
  | ok y =>
    rw [hi] at h
    have h : preL [y.1] (chn toks W f toks.length y.2) = .ok x := h
    cases hc : chn toks W f toks.length y.2 with
    | error j => rw [hc] at h; cases h
    | ok z =>
      rw [hc] at h
      cases h
      obtain ⟨h1, h2⟩ := chn_g hf hc
      refine ⟨fun p hp => ?_, Nat.succ_le_succ h2, fun e => nomatch e⟩
      rcases List.mem_cons.mp hp with rfl | hp
      · exact hf _ _ hi
      · exact h1 p hp
theorem psgs_of : ∀ {l : List Ps}, (∀ p ∈ l, PsG p) → PsGs l
  | [], _ => by unfold PsGs; trivial
  | p :: l, h => by
    unfold PsGs
    exact ⟨h p List.mem_cons_self, psgs_of fun q hq => h q (List.mem_cons_of_mem _ hq)⟩
theorem dps_of {d : Nat} : ∀ {l : List Ps}, (∀ p ∈ l, p.dp ≤ d) → Ps.dps l ≤ d
  | [], _ => by unfold Ps.dps; exact Nat.zero_le _
  | p :: l, h => by
    unfold Ps.dps
    have h1 := h p List.mem_cons_self
    have h2 := dps_of fun q hq => h q (List.mem_cons_of_mem _ hq)
    omega
theorem grp_g {toks : Tks} (hl : toks.length ≤ 999) {W : List Nat} {w : Bool} {d : Nat} {f : Nat → PO} (hf : ∀ i x, f i = .ok x → PsG x.1 ∧ x.1.dp ≤ d) : ∀ i x, grpP w (lst1 toks W f i) = .ok x → PsG x.1 ∧ x.1.dp ≤ d + 1 := fun i x h => by
  cases hi : lst1 toks W f i with
  | error j => rw [hi] at h; cases h
  | ok y =>
    rw [hi] at h
    cases h
    obtain ⟨h1, h2, h3⟩ := lst1_g (P := fun p => PsG p ∧ p.dp ≤ d) hf hi
    refine ⟨?_, ?_⟩
    · show PsG (.grp w y.1)
      unfold PsG
      exact ⟨psgs_of fun p hp => (h1 p hp).1, by omega, h3⟩
    · show Ps.dp (.grp w y.1) ≤ d + 1
      unfold Ps.dp
      have := dps_of fun p hp => (h1 p hp).2
      omega
theorem leaf_g {t : Tr} (h : Tg t) (hl : Lf t) {d : Nat} : PsG (.leaf t) ∧ (Ps.leaf t).dp ≤ d := ⟨by unfold PsG; exact ⟨h, hl⟩, by unfold Ps.dp; exact Nat.zero_le _⟩
theorem bas_g {toks : Tks} {d : Nat} : ∀ i x, basP toks i = .ok x → PsG x.1 ∧ x.1.dp ≤ d := fun i x h => by
  unfold basP at h
  split at h
  · cases h; exact leaf_g tg_tt trivial
  split at h
  · cases h; exact leaf_g tg_ff trivial
  split at h
  · rename_i hn
    split at h
    · rename_i hs
      cases hr : rdI (tokAt toks (i + 2)) with
      | none => rw [hr] at h; cases h
      | some n =>
        rw [hr] at h
        cases h
        have hb := (rdI_spec hr).2
        unfold inB at hb
        rw [Bool.and_eq_true, decide_eq_true_iff, decide_eq_true_iff] at hb
        exact leaf_g (tg_pure (t := .cmp _ _ _) True.intro (fun c hc => by
          rw [List.mem_singleton.mp hc]
          exact ⟨hn, hs, hb⟩) (by show 1 ≤ 8; decide)) trivial
    · cases h
  · cases h
theorem fac_g {toks : Tks} (hl : toks.length ≤ 999) : ∀ m i x, facP toks m i = .ok x → PsG x.1 ∧ x.1.dp ≤ 2 * m
  | 0, i, x, h => bas_g i x h
  | m + 1, i, x, h => by
    have ih := fac_g hl m
    unfold facP at h
    split at h
    · cases hi : facP toks m (i + 1) with
      | error j => rw [hi] at h; cases h
      | ok y =>
        rw [hi] at h
        cases h
        obtain ⟨h1, h2⟩ := ih _ _ hi
        refine ⟨by show PsG (.neg y.1); unfold PsG; exact h1, by show Ps.dp (.neg y.1) ≤ _; unfold Ps.dp; omega⟩
    split at h
    · cases hi : cdP toks (facP toks m) (i + 1) with
      | error j => rw [hi] at h; cases h
      | ok y =>
        rw [hi] at h
        have h : (if tokAt toks y.2 = [41] then Except.ok (y.1, y.2 + 1) else Except.error y.2 : PO) = .ok x := h
        obtain ⟨h1, h2⟩ := grp_g hl (grp_g hl ih) _ _ hi
        split at h
        · cases h
          exact ⟨h1, by show y.1.dp ≤ _; omega⟩
        · cases h
    · exact bas_g i x h
theorem cd_g {toks : Tks} (hl : toks.length ≤ 999) {m i : Nat} {x : Ps × Nat} (h : cdP toks (facP toks m) i = .ok x) : PsG x.1 ∧ x.1.dp ≤ 2 * m + 2 := grp_g hl (grp_g hl (fac_g hl m)) _ _ h
end
section
variable {P : Program} {w : World} {K : PySem.W.Frag} {mg : Str → Option Value} {base : Heap}
variable {t_BOUND t_DIGITS t_LETTERS t_LONGEST_INTEGER t_LONGEST_NAME t_MOST_NESTED : Tok} {a_ALWAYS a_MARKS a_NEVER a_OPPOSITES a_RESERVED a_SIGNS a_BadName a_BadNumber a_BadSign a_BadText a_Condition a_ElseputError a_Reader a_TooLarge : Addr}
/-! ### Condition.read -/
inductive Out where
  | bad (c : Int)
  | big
  | ok (t : Tr)
def bOut (o : Option Tr) : Out := match o with
  | some t => .ok t
  | none => .big
noncomputable def tOut (toks : Tks) (e : Int) : Out := match fD toks 20 0 with
  | .error j => .bad (colAt toks e j)
  | .ok r => if r.2 = toks.length then bOut (bld r.1) else .bad (colAt toks e r.2)
noncomputable def outOf (z : Str) : Out := match splitL z.cps.toList 1 with
  | .error c => .bad (c : Int)
  | .ok toks => tOut toks ((z.length : Int) + 1)
def ToOut (K : PySem.W.Frag) (H : Hp) (o : Out) (Q : VK) (E : XK) : Prop := match o with
  | .bad c => BadAt K H 1 c E
  | .big => BigO K H E
  | .ok t => ∀ (H' : Hp) (a : Addr), Same H H' → CnAt K H' a t → Q (.ref a) H'
def sp_Condition_read (K : PySem.W.Frag) : Sp := fun vs H Q E => ∃ z : Str, vs = [.str z] ∧ z.length ≤ 10000 ∧ (∀ toks, splitL z.cps.toList 1 = .ok toks → TkOk toks ∧ (∀ j, TokE (tokAt toks j)) ∧ toks.length ≤ 900) ∧ ToOut K H (outOf z) Q E
theorem len_Condition_read {vs : List V} {H : Hp} {Q : VK} {E : XK} (h : sp_Condition_read K vs H Q E) : vs.length = 1 := by
  obtain ⟨_, rfl, _⟩ := h
  rfl
theorem ok_Condition_read {f : Addr} {fd : FuncData} {f_parse_condition : Addr} {fd_parse_condition : FuncData} {f_build_condition : Addr} {fd_build_condition : FuncData} {f_Reader___init__ : Addr} {fd_Reader___init__ : FuncData} {f_Reader_take_end : Addr} {fd_Reader_take_end : FuncData} (F : Fun K "read" "Condition.read" s_Condition_read f fd) (T : Gs K mg t_BOUND t_DIGITS t_LETTERS t_LONGEST_INTEGER t_LONGEST_NAME t_MOST_NESTED a_ALWAYS a_MARKS a_NEVER a_OPPOSITES a_RESERVED a_SIGNS a_BadName a_BadNumber a_BadSign a_BadText a_Condition a_ElseputError a_Reader a_TooLarge) (c_parse_condition : CalD P w K mg base (L2.CX P w) 71 "parse_condition" f_parse_condition fd_parse_condition ["reader", "depth"] [(.int 0)] (sp_parse_condition K)) (c_build_condition : Cal P w K mg base (L2.CX P w) 80 "build_condition" f_build_condition fd_build_condition ["parsed"] (sp_build_condition K)) (c_Reader___init__ : CalID P w K mg base (L2.CX P w) 4 "Reader" a_Reader f_Reader___init__ fd_Reader___init__ ["self", "line", "number"] [(.int 1)] (sp_Reader___init__ K)) (c_Reader_take_end : CalM P w K mg base (L2.CX P w) 4 a_Reader "take_end" f_Reader_take_end fd_Reader_take_end ["self"] (sp_Reader_take_end K)) : FnOk P w K mg base (L2.CX P w) 82 f fd ["line"] (sp_Condition_read K) := by
  refine F.okX sc_Condition_read (fun vs H Q E h => len_Condition_read h) (fun cdv A outer s H vs Q E hr h => ?_)
  obtain ⟨z, rfl, hz, hk, q⟩ := h
  refine ⟨_, (pss_cons (ps_set (i := 1) sc_Condition_read.nd rfl (.inl rfl) (pe_makeD c_Reader___init__ (hr.mono (by first | decide | omega)) rfl (passes_call (takes_of rfl rfl rfl rfl) (fun _ _ _ _ h => h)) (pa_cons (v_ 0) pa_nil))) (pss_cons (ps_set (i := 2) sc_Condition_read.nd rfl (.inl rfl) (pe_callD c_parse_condition (hr.mono (by first | decide | omega)) rfl (passes_call (takes_of rfl rfl rfl rfl) (fun _ _ _ _ h => h)) (pa_cons (v_ 1) pa_nil))) (pss_cons (ps_expr (pe_meth0 (v_ 1) c_Reader_take_end.cl c_Reader_take_end.me c_Reader_take_end.G (hr.mono (by first | decide | omega)) c_Reader_take_end.b .nil (passes_call (takes_of rfl rfl rfl rfl) (fun _ _ _ _ h => h)))) (pss_one (ps_ret (pe_call c_build_condition.G (hr.mono (by first | decide | omega)) rfl c_build_condition.m c_build_condition.kp c_build_condition.b .nil (passes_call (takes_of rfl rfl rfl rfl) (fun _ _ _ _ h => h)) (pa_cons (v_ 2) pa_nil))))))), ?_⟩
  refine fun x dx nx nd ne => ?_
  have sm : Same H (upd (upd H dx (.own x)) x (.ins a_Reader dx [])) := fun b o hb => by
    rw [upd_ne (ne_of_none hb nx), upd_ne (ne_of_none hb nd)]
    exact hb
  refine ⟨x, a_Reader, dx, z, 1, rfl, T.n_Reader, upd_same, by omega, by decide, by decide, ?_⟩
  unfold outOf at q
  unfold Inits
  cases hs : splitL z.cps.toList 1 with
  | error c =>
    rw [hs] at q
    exact BadAt.same (show BadAt K H 1 (c : Int) E from q) sm
  | ok toks =>
    rw [hs] at q
    intro H1 p b1 r1
    refine ⟨rfl, ?_⟩
    obtain ⟨hT, hE, hlen⟩ := hk toks hs
    have s1 : Same H H1 := fun b o hb => b1 b o (ne_of_none hb nx) (sm _ _ hb)
    have R0 : Rd0 K H1 x p 1 ((z.length : Int) + 1) toks 0 := ⟨r1, hT, by decide, by decide, by omega, by omega⟩
    have toSame : ∀ {H' : Hp}, Bt x H1 H' → Same H H' := fun b c o hc => b c o (ne_of_none hc nx) (s1 _ _ hc)
    have q : ToOut K H (tOut toks ((z.length : Int) + 1)) Q E := q
    unfold tOut at q
    refine ⟨x, p, 1, _, toks, 0, 20, 0, rfl, rfl, by decide, R0, hE, by omega, ?_⟩
    cases hP : fD toks 20 0 with
    | error j =>
      rw [hP] at q
      have q : BadAt K H 1 (colAt toks ((z.length : Int) + 1) j) E := q
      exact fun C d H' hC b nd hd => q C d H' hC (toSame b) (Same.free s1 nd) hd
    | ok r =>
      rw [hP] at q
      intro H2 v b2 r2 hv
      obtain ⟨C2, dx2, ts2, hC2, hx2, _⟩ := id r2
      cases hC2.symm.trans T.n_Reader
      have s2 := toSame b2
      refine ⟨x, dx2, _, rfl, hx2, rfl, x, p, 1, _, toks, r.2, rfl, R0.to r2, ?_⟩
      have q : ToOut K H (if r.2 = toks.length then bOut (bld r.1) else .bad (colAt toks ((z.length : Int) + 1) r.2)) Q E := q
      by_cases he : r.2 = toks.length
      · rw [if_pos he] at q ⊢
        obtain ⟨g1, g2⟩ := cd_g (x := r) (by omega) hP
        refine ⟨v, r.1, _, rfl, hv, by omega, g1, ?_⟩
        cases hb : bld r.1 with
        | none =>
          rw [hb] at q
          exact BigO.same (show BigO K H E from q) s2
        | some t =>
          rw [hb] at q
          exact fun H' a s hA => (show ∀ (H' : Hp) (a : Addr), Same H H' → CnAt K H' a t → Q (.ref a) H' from q) H' a (s2.trans s) hA
      · rw [if_neg he] at q ⊢
        exact BadAt.same (show BadAt K H 1 _ E from q) s2
end
section
variable {P : Program} {w : World} {K : PySem.W.Frag} {mg : Str → Option Value} {base : Heap}
variable {t_BOUND t_DIGITS t_LETTERS t_LONGEST_INTEGER t_LONGEST_NAME t_MOST_NESTED : Tok} {a_ALWAYS a_MARKS a_NEVER a_OPPOSITES a_RESERVED a_SIGNS a_BadName a_BadNumber a_BadSign a_BadText a_Condition a_ElseputError a_Reader a_TooLarge : Addr}
/-! ### outcomes -/
theorem same_tr {H : Hp} {t : Tr} {n : Nat} (hd : t.depth + 2 ≤ n) {x y : V} (h1 : TAt K H t x) (h2 : TAt K H t y) : SameV K H n x y := by
  have := same_tree t (m := n - 2 - t.depth) h1 h2
  rwa [show t.depth + (n - 2 - t.depth) + 2 = n by omega] at this
def OutV (K : PySem.W.Frag) (H : Hp) (o : Out) (t : Addr) : Prop := match o with
  | .bad c => H t = some (.tup [.str "bad", .int 1, .int c])
  | .big => H t = some (.tup [.str "large", .int 8])
  | .ok tr => ∃ v : V, H t = some (.tup [.str "let", v]) ∧ TAt K H tr v ∧ tr.depth ≤ 9
theorem OutV.same {H H' : Hp} {o : Out} {t : Addr} (h : OutV K H o t) (s : Same H H') : OutV K H' o t := by
  cases o with
  | bad c => exact s _ _ h
  | big => exact s _ _ h
  | ok tr =>
    obtain ⟨v, h1, h2, h3⟩ := h
    exact ⟨v, s _ _ h1, h2.same s, h3⟩
theorem outv_same {H : Hp} {o : Out} {t u : Addr} (h1 : OutV K H o t) (h2 : OutV K H o u) : SameV K H 24 (.ref t) (.ref u) := by
  cases o with
  | bad c =>
    refine same_tupN (SqT.of h1) (SqT.of h2) rfl (by show 3 ≤ 1000; decide) fun i a b ha hb => ?_
    rw [ha] at hb
    cases hb
    match i, ha with
    | 0, ha => cases ha; exact same_str _
    | 1, ha => cases ha; exact same_int _
    | 2, ha => cases ha; exact same_int _
    | i + 3, ha => cases ha
  | big =>
    refine same_tupN (SqT.of h1) (SqT.of h2) rfl (by show 2 ≤ 1000; decide) fun i a b ha hb => ?_
    rw [ha] at hb
    cases hb
    match i, ha with
    | 0, ha => cases ha; exact same_str _
    | 1, ha => cases ha; exact same_int _
    | i + 2, ha => cases ha
  | ok tr =>
    obtain ⟨v, e1, t1, d1⟩ := h1
    obtain ⟨w, e2, t2, _⟩ := h2
    refine same_tupN (SqT.of e1) (SqT.of e2) rfl (by show 2 ≤ 1000; decide) fun i a b ha hb => ?_
    match i, ha, hb with
    | 0, ha, hb => cases ha; cases hb; exact same_str _
    | 1, ha, hb => cases ha; cases hb; exact same_tr (by omega) t1 t2
    | i + 2, ha, hb => cases ha
def ReadPre (z : Str) : Prop := z.length ≤ 10000 ∧ ∀ toks, splitL z.cps.toList 1 = .ok toks → TkOk toks ∧ (∀ j, TokE (tokAt toks j)) ∧ toks.length ≤ 900
theorem out_dp {z : Str} {t : Tr} (hz : ReadPre z) (e : outOf z = .ok t) : t.depth ≤ 9 := by
  unfold outOf at e
  cases hs : splitL z.cps.toList 1 with
  | error c => rw [hs] at e; cases e
  | ok toks =>
    rw [hs] at e
    have e : tOut toks ((z.length : Int) + 1) = .ok t := e
    unfold tOut at e
    have hl := (hz.2 toks hs).2.2
    cases hP : fD toks 20 0 with
    | error j => rw [hP] at e; cases e
    | ok r =>
      rw [hP] at e
      have e : (if r.2 = toks.length then bOut (bld r.1) else .bad (colAt toks ((z.length : Int) + 1) r.2)) = .ok t := e
      split at e
      · obtain ⟨g1, _⟩ := cd_g (x := r) (by omega) hP
        cases hb : bld r.1 with
        | none => rw [hb] at e; cases e
        | some u =>
          rw [hb] at e
          cases e
          exact (bld_tg g1 hb).g.dp
      · cases e
def sp__law_read_it (K : PySem.W.Frag) : Sp := fun vs H Q _ => ∃ z : Str, vs = [.str z] ∧ ReadPre z ∧ ∀ (H' : Hp) (t : Addr), Same H H' → OutV K H' (outOf z) t → Q (.ref t) H'
theorem len__law_read_it {vs : List V} {H : Hp} {Q : VK} {E : XK} (h : sp__law_read_it K vs H Q E) : vs.length = 1 := by
  obtain ⟨_, rfl, _⟩ := h
  rfl
theorem ok__law_read_it {f : Addr} {fd : FuncData} {f_Condition_read : Addr} {fd_Condition_read : FuncData} {p_Condition_read : Addr} (F : Fun K "_law_read_it" "_law_read_it" s__law_read_it f fd) (T : Gs K mg t_BOUND t_DIGITS t_LETTERS t_LONGEST_INTEGER t_LONGEST_NAME t_MOST_NESTED a_ALWAYS a_MARKS a_NEVER a_OPPOSITES a_RESERVED a_SIGNS a_BadName a_BadNumber a_BadSign a_BadText a_Condition a_ElseputError a_Reader a_TooLarge) (c_Condition_read : CalS P w K mg base (L2.CX P w) 82 a_Condition p_Condition_read "read" f_Condition_read fd_Condition_read ["line"] (sp_Condition_read K)) : FnOk P w K mg base CX0 84 f fd ["_law_line"] (sp__law_read_it K) := by
  refine F.ok sc__law_read_it (fun vs H Q E h => len__law_read_it h) (fun cdv A outer s H vs Q E hr h => ?_)
  obtain ⟨z, rfl, hz, q⟩ := h
  refine ⟨_, (pss_cons (ps_try_as (i := 1) rfl rfl sc__law_read_it.nd rfl rfl ⟨rfl, by decide +kernel, .inl T.g_ElseputError⟩ takes0 (fun W pn xe tk po => (pss_one (ps_ret (pe_tup (pa_cons pe_str (pa_cons (e_f K (pe_smethS (pe_glob (v := .ref a_Condition) rfl T.g_Condition rfl) c_Condition_read.rd c_Condition_read.sm c_Condition_read.G (hr.mono (by first | decide | omega)) c_Condition_read.b (fun σ => passAt tk σ) (pa_cons (v_ 0) pa_nil))) pa_nil)))))) (fun ea oe ecls ed epn hz hf => (pss_cons (ps_if (PW.pt (pw_and (pt_t K (pe_callB (call_isX hz hf) (by rfl) T.z_isinstance (by decide +kernel) (pa_cons (v_ 1) (pa_cons (pe_glob (v := .ref a_BadText) rfl T.g_BadText rfl) pa_nil)))) (pw_and (pt_t K (pe_callB (call_isX hz hf) (by rfl) T.z_isinstance (by decide +kernel) (pa_cons (v_ 1) (pa_cons (pe_bltn (v := .ty "ValueError") (u := .type "ValueError") (by rfl) T.z_ValueError (by decide +kernel) rfl) pa_nil)))) (pw_and1 (pt_not (pt_t K (pe_callB (call_isX hz hf) (by rfl) T.z_isinstance (by decide +kernel) (pa_cons (v_ 1) (pa_cons (pe_glob (v := .ref a_TooLarge) rfl T.g_TooLarge rfl) pa_nil))))))))) (pss_one (ps_ret (pe_tup (pa_cons pe_str (pa_cons (pe_xf T.x_BadText.xf (T.x_BadText.no _ (by decide)) hz hf (v_ 1)) (pa_cons (pe_xf T.x_BadText.xf (T.x_BadText.no _ (by decide)) hz hf (v_ 1)) pa_nil)))))) pss_nil) (pss_one (ps_if (PW.pt (pw_and (pt_t K (pe_callB (call_isX hz hf) (by rfl) T.z_isinstance (by decide +kernel) (pa_cons (v_ 1) (pa_cons (pe_glob (v := .ref a_TooLarge) rfl T.g_TooLarge rfl) pa_nil)))) (pw_and1 (pt_not (pt_t K (pe_callB (call_isX hz hf) (by rfl) T.z_isinstance (by decide +kernel) (pa_cons (v_ 1) (pa_cons (pe_glob (v := .ref a_BadText) rfl T.g_BadText rfl) pa_nil)))))))) (pss_one (ps_ret (pe_tup (pa_cons pe_str (pa_cons (pe_xf T.x_TooLarge.xf (T.x_TooLarge.no _ (by decide)) hz hf (v_ 1)) pa_nil))))) pss_nil))))) (pss_one (ps_ret (pe_tup (pa_cons pe_str pa_nil))))), ?_⟩
  have hlen := fun t => out_dp (z := z) (t := t) hz
  refine ⟨rfl, z, rfl, hz.1, hz.2, ?_⟩
  generalize outOf z = o at q hlen ⊢
  cases o with
  | bad c =>
    intro C3 d H' hC3 sm nd hd
    cases hC3.symm.trans T.n_BadText
    refine ⟨true, T.m_BadText_ElseputError, fun _ e ne => ?_, fun h => nomatch h⟩
    refine ⟨_, d, _, _, _, true, rfl, rfl, rfl, hd, T.x_BadText.is, fun u h => h, T.k_BadText_BadText, ?_⟩
    refine ⟨_, d, _, _, _, true, rfl, rfl, rfl, hd, T.x_BadText.is, fun u h => h, T.k_BadText_ValueError, ?_⟩
    refine ⟨_, d, _, _, _, false, rfl, rfl, rfl, hd, T.x_BadText.is, fun u h => h, T.k_BadText_TooLarge, ?_⟩
    refine ⟨rfl, rfl, d, _, _, rfl, hd, rfl, rfl, rfl, d, _, _, rfl, hd, rfl, (by show 3 ≤ sizeLine; decide), fun t nt => ?_⟩
    exact q _ t (sm.trans (same_new nt)) upd_same
  | big =>
    intro C3 d H' hC3 sm nd hd
    cases hC3.symm.trans T.n_TooLarge
    refine ⟨true, T.m_TooLarge_ElseputError, fun _ e ne => ?_, fun h => nomatch h⟩
    refine ⟨_, d, _, _, _, false, rfl, rfl, rfl, hd, T.x_TooLarge.is, fun u h => h, T.k_TooLarge_BadText, ?_⟩
    refine ⟨_, d, _, _, _, true, rfl, rfl, rfl, hd, T.x_TooLarge.is, fun u h => h, T.k_TooLarge_TooLarge, ?_⟩
    refine ⟨_, d, _, _, _, false, rfl, rfl, rfl, hd, T.x_TooLarge.is, fun u h => h, T.k_TooLarge_BadText, ?_⟩
    refine ⟨rfl, rfl, d, _, _, rfl, hd, rfl, (by show 2 ≤ sizeLine; decide), fun t nt => ?_⟩
    exact q _ t (sm.trans (same_new nt)) upd_same
  | ok tr =>
    intro H' a' sm hA'
    obtain ⟨C3, dz, u3, x3, ss3, hC3, ha3, ht3, _⟩ := id hA'
    cases hC3.symm.trans T.n_Condition
    refine ⟨a', a_Condition, dz, _, _, rfl, ha3, T.cl_Condition, T.na_Condition_tree, rfl, ?_⟩
    refine ⟨(by show 2 ≤ sizeLine; decide), fun t nt => ?_⟩
    exact q _ t (sm.trans (same_new nt)) ⟨x3, upd_same, ht3.same (same_new nt), hlen tr rfl⟩
end
section
variable {P : Program} {w : World} {K : PySem.W.Frag} {mg : Str → Option Value} {base : Heap}
variable {t_BOUND t_DIGITS t_LETTERS t_LONGEST_INTEGER t_LONGEST_NAME t_MOST_NESTED : Tok} {a_ALWAYS a_MARKS a_NEVER a_OPPOSITES a_RESERVED a_SIGNS a_BadName a_BadNumber a_BadSign a_BadText a_Condition a_ElseputError a_Reader a_TooLarge : Addr}
def parL (b : Bool) (ws : List Str) : List Str := if b = true then (["("] : List Str) ++ ws ++ ([")"] : List Str) else ws
theorem name_word {z : Str} (h : isName z = true) : z.cps.toList ≠ [] ∧ ∀ c ∈ z.cps.toList, isL c = true := by
  unfold isName at h
  split at h
  · cases h
  · rename_i h1
    refine ⟨fun e => h1 ?_, fun c hc => ?_⟩
    · have := len_cps z
      rw [e] at this
      rw [← this]
      rfl
    · have := List.all_eq_true.mp h c hc
      rw [letters_cps] at this
      exact this
/-! ### how the parts of a line are read -/
def lstN (toks : Tks) (W : List Nat) (f : Nat → PO) (n i : Nat) : LO := match f i with
  | .error j => .error j
  | .ok x => preL [x.1] (chn toks W f n x.2)
theorem lstN_ok {toks : Tks} {W : List Nat} {f : Nat → PO} {n i : Nat} {x : Ps × Nat} (h : f i = .ok x) : lstN toks W f n i = preL [x.1] (chn toks W f n x.2) := by
  unfold lstN
  rw [h]
def Seg (toks : Tks) : Nat → List Str → Prop
  | _, [] => True
  | i, z :: r => (i < toks.length ∧ tokAt toks i = z.cps.toList) ∧ Seg toks (i + 1) r
theorem seg_app {toks : Tks} : ∀ {xs ys : List Str} {i : Nat}, Seg toks i (xs ++ ys) ↔ Seg toks i xs ∧ Seg toks (i + xs.length) ys
  | [], ys, i => ⟨fun h => ⟨True.intro, h⟩, fun h => h.2⟩
  | x :: xs, ys, i => by
    show ((i < toks.length ∧ tokAt toks i = x.cps.toList) ∧ Seg toks (i + 1) (xs ++ ys)) ↔ ((i < toks.length ∧ tokAt toks i = x.cps.toList) ∧ Seg toks (i + 1) xs) ∧ Seg toks (i + (xs.length + 1)) ys
    rw [seg_app, show i + (xs.length + 1) = i + 1 + xs.length by omega]
    simp only [and_assoc]
theorem seg_len {toks : Tks} : ∀ {xs : List Str} {i : Nat}, 0 < xs.length → Seg toks i xs → i + xs.length ≤ toks.length
  | [], _, h, _ => absurd h (by decide)
  | [x], i, _, h => h.1.1
  | x :: y :: r, i, _, h => by
    have := seg_len (xs := y :: r) (i := i + 1) (Nat.succ_pos _) h.2
    rw [List.length_cons] at this ⊢
    rw [List.length_cons]
    omega
def FL (ws : List Str) (v : Tr) (m : Nat) : Prop := 0 < ws.length ∧ ∀ (toks : Tks) (M i : Nat), m ≤ M → Seg toks i ws → ∃ ps, facP toks M i = .ok (ps, i + ws.length) ∧ bld ps = some v
def CL (ws : List Str) (v : Tr) (m : Nat) : Prop := 0 < ws.length ∧ ∀ (toks : Tks) (M i : Nat), m ≤ M → Seg toks i ws → ∃ (l : List Ps) (ts : List Tr) (k : Nat), k + 1 ≤ ws.length ∧ blds l = some ts ∧ foldL true ts = some v ∧
  ∀ n, lstN toks (wdC true) (facP toks M) (n + k) i = preL l (chn toks (wdC true) (facP toks M) n (i + ws.length))
def DL (ws : List Str) (v : Tr) (m : Nat) : Prop := 0 < ws.length ∧ ∀ (toks : Tks) (M i : Nat), m ≤ M → Seg toks i ws → tokAt toks (i + ws.length) ≠ wdC true → ∃ (l : List Ps) (ts : List Tr) (k : Nat), k + 1 ≤ ws.length ∧ blds l = some ts ∧ foldL false ts = some v ∧
  ∀ n, lstN toks (wdC false) (cjP toks (facP toks M)) (n + k) i = preL l (chn toks (wdC false) (cjP toks (facP toks M)) n (i + ws.length))
theorem FL.mono {ws : List Str} {v : Tr} {m m' : Nat} (h : FL ws v m) (hm : m ≤ m') : FL ws v m' := ⟨h.1, fun toks M i hM => h.2 toks M i (Nat.le_trans hm hM)⟩
theorem CL.mono {ws : List Str} {v : Tr} {m m' : Nat} (h : CL ws v m) (hm : m ≤ m') : CL ws v m' := ⟨h.1, fun toks M i hM => h.2 toks M i (Nat.le_trans hm hM)⟩
theorem DL.mono {ws : List Str} {v : Tr} {m m' : Nat} (h : DL ws v m) (hm : m ≤ m') : DL ws v m' := ⟨h.1, fun toks M i hM => h.2 toks M i (Nat.le_trans hm hM)⟩
theorem foldT_snoc {w : Bool} {u v : Tr} (hc : (joinT w v u).cs.length ≤ 8) : ∀ {r : List Tr} {t : Tr}, foldT w t r = some v → foldT w t (r ++ [u]) = some (joinT w v u)
  | [], t, k => by
    cases k
    show foldT w v [u] = _
    unfold foldT
    rw [if_pos hc]
    rfl
  | x :: r, t, k => by
    unfold foldT at k
    show foldT w t (x :: (r ++ [u])) = _
    unfold foldT
    split at k
    · rename_i h
      rw [if_pos h]
      exact foldT_snoc hc k
    · cases k
theorem foldL_snoc {w : Bool} {u v : Tr} (hc : (joinT w v u).cs.length ≤ 8) {ts : List Tr} (k : foldL w ts = some v) : foldL w (ts ++ [u]) = some (joinT w v u) := by
  cases ts with
  | nil => cases k
  | cons t r => exact foldT_snoc hc k
theorem FL.c {ws : List Str} {v : Tr} {m : Nat} (h : FL ws v m) : CL ws v m := ⟨h.1, fun toks M i hM hs => by
  obtain ⟨ps, h1, h2⟩ := h.2 toks M i hM hs
  have h0 := h.1
  exact ⟨[ps], [v], 0, by omega, blds_one h2, rfl, fun n => lstN_ok h1⟩⟩
theorem CL.cj {ws : List Str} {v : Tr} {m : Nat} (h : CL ws v m) {toks : Tks} {M i : Nat} (hM : m ≤ M) (hs : Seg toks i ws) (ht : tokAt toks (i + ws.length) ≠ wdC true) : ∃ p, cjP toks (facP toks M) i = .ok (p, i + ws.length) ∧ bld p = some v := by
  obtain ⟨l, ts, k, h1, h2, h3, h4⟩ := h.2 toks M i hM hs
  have hl := seg_len h.1 hs
  have h5 := h4 (toks.length - k)
  rw [show toks.length - k + k = toks.length by omega, chn_stop ht] at h5
  refine ⟨.grp true (l ++ []), ?_, ?_⟩
  · show grpP true (lstN toks (wdC true) (facP toks M) toks.length i) = _
    rw [h5]
    rfl
  · rw [List.append_nil]
    unfold bld
    rw [h2]
    exact h3
theorem CL.d {ws : List Str} {v : Tr} {m : Nat} (h : CL ws v m) : DL ws v m := ⟨h.1, fun toks M i hM hs ht => by
  obtain ⟨p, h1, h2⟩ := h.cj hM hs ht
  have h0 := h.1
  exact ⟨[p], [v], 0, by omega, blds_one h2, rfl, fun n => lstN_ok h1⟩⟩
theorem DL.cd {ws : List Str} {v : Tr} {m : Nat} (h : DL ws v m) {toks : Tks} {M i : Nat} (hM : m ≤ M) (hs : Seg toks i ws) (ht : tokAt toks (i + ws.length) ≠ wdC true) (ht2 : tokAt toks (i + ws.length) ≠ wdC false) : ∃ p, cdP toks (facP toks M) i = .ok (p, i + ws.length) ∧ bld p = some v := by
  obtain ⟨l, ts, k, h1, h2, h3, h4⟩ := h.2 toks M i hM hs ht
  have hl := seg_len h.1 hs
  have h5 := h4 (toks.length - k)
  rw [show toks.length - k + k = toks.length by omega, chn_stop ht2] at h5
  refine ⟨.grp false (l ++ []), ?_, ?_⟩
  · show grpP false (lstN toks (wdC false) (cjP toks (facP toks M)) toks.length i) = _
    rw [h5]
    rfl
  · rw [List.append_nil]
    unfold bld
    rw [h2]
    exact h3
theorem CL.snoc {ws us : List Str} {v u : Tr} {m : Nat} (h : CL ws v m) (g : FL us u m) (hc : (joinT true v u).cs.length ≤ 8) : CL (ws ++ [wd true] ++ us) (joinT true v u) m := by
  have el : (ws ++ [wd true] ++ us).length = ws.length + 1 + us.length := by rw [List.length_append, List.length_append]; rfl
  refine ⟨by have := h.1; omega, fun toks M i hM hs => ?_⟩
  rw [seg_app, seg_app, List.length_append, List.length_singleton] at hs
  obtain ⟨⟨s1, ⟨s2, _⟩⟩, s3⟩ := hs
  obtain ⟨l, ts, k, h1, h2, h3, h4⟩ := h.2 toks M i hM s1
  obtain ⟨ps, p1, p2⟩ := g.2 toks M _ hM s3
  refine ⟨l ++ [ps], ts ++ [u], k + 1, by have := g.1; omega, blds_snoc p2 h2, foldL_snoc hc h3, fun n => ?_⟩
  have e := h4 (n + 1)
  rw [show n + 1 + k = n + (k + 1) by omega] at e
  rw [e, chn_on (show _ = wdC _ from s2.2) (by rw [show i + ws.length + 1 = i + (ws.length + 1) by omega]; exact p1), preL_pre, el, show i + (ws.length + 1) + us.length = i + (ws.length + 1 + us.length) by omega]
theorem DL.snoc {ws us : List Str} {v u : Tr} {m : Nat} (h : DL ws v m) (g : CL us u m) (hc : (joinT false v u).cs.length ≤ 8) : DL (ws ++ [wd false] ++ us) (joinT false v u) m := by
  have el : (ws ++ [wd false] ++ us).length = ws.length + 1 + us.length := by rw [List.length_append, List.length_append]; rfl
  refine ⟨by have := h.1; omega, fun toks M i hM hs ht => ?_⟩
  rw [seg_app, seg_app, List.length_append, List.length_singleton] at hs
  obtain ⟨⟨s1, ⟨s2, _⟩⟩, s3⟩ := hs
  rw [el] at ht
  obtain ⟨l, ts, k, h1, h2, h3, h4⟩ := h.2 toks M i hM s1 (by rw [s2.2]; decide +kernel)
  obtain ⟨ps, p1, p2⟩ := g.cj hM s3 (by rw [show i + (ws.length + 1) + us.length = i + (ws.length + 1 + us.length) by omega]; exact ht)
  refine ⟨l ++ [ps], ts ++ [u], k + 1, by have := g.1; omega, blds_snoc p2 h2, foldL_snoc hc h3, fun n => ?_⟩
  have e := h4 (n + 1)
  rw [show n + 1 + k = n + (k + 1) by omega] at e
  rw [e, chn_on (show _ = wdC _ from s2.2) (by rw [show i + ws.length + 1 = i + (ws.length + 1) by omega]; exact p1), preL_pre, el, show i + (ws.length + 1) + us.length = i + (ws.length + 1 + us.length) by omega]
theorem fac_bas {toks : Tks} {M i : Nat} (h1 : tokAt toks i ≠ ("not" : Str).cps.toList) (h2 : tokAt toks i ≠ [40]) : facP toks M i = basP toks i := by
  cases M with
  | zero => rfl
  | succ M => unfold facP; rw [if_neg h1, if_neg h2]
theorem DL.par {ws : List Str} {v : Tr} {m : Nat} (h : DL ws v m) : FL (parL true ws) v (m + 1) := by
  have el : (parL true ws).length = ws.length + 2 := by
    show ((["("] : List Str) ++ ws ++ ([")"] : List Str)).length = _
    rw [List.length_append, List.length_append]
    show 1 + ws.length + 1 = _
    omega
  refine ⟨by omega, fun toks M i hM hs => ?_⟩
  have hs : Seg toks i ((["("] : List Str) ++ ws ++ ([")"] : List Str)) := hs
  rw [seg_app, seg_app] at hs
  obtain ⟨⟨⟨s1, _⟩, s2⟩, ⟨s3, _⟩⟩ := hs
  have e1 : i + ([("(" : Str)] ++ ws).length = i + 1 + ws.length := by rw [List.length_append]; show i + (1 + ws.length) = _; omega
  rw [e1] at s3
  obtain ⟨p, p1, p2⟩ := h.cd (M := M - 1) (by omega) s2 (by show tokAt toks (i + 1 + ws.length) ≠ _; rw [s3.2]; decide +kernel) (by show tokAt toks (i + 1 + ws.length) ≠ _; rw [s3.2]; decide +kernel)
  refine ⟨p, ?_, p2⟩
  cases M with
  | zero => omega
  | succ M =>
    have p1 : cdP toks (facP toks M) (i + 1) = .ok (p, i + 1 + ws.length) := p1
    unfold facP
    rw [if_neg (by rw [s1.2]; decide +kernel), if_pos (by rw [s1.2]; decide +kernel), p1]
    show (if tokAt toks (i + 1 + ws.length) = [41] then Except.ok (p, i + 1 + ws.length + 1) else Except.error (i + 1 + ws.length) : PO) = _
    rw [if_pos (by rw [s3.2]; decide +kernel), el, show i + 1 + ws.length + 1 = i + (ws.length + 2) by omega]
theorem FL.nt {ws : List Str} {v : Tr} {m : Nat} (h : FL ws v m) : FL ((["not"] : List Str) ++ ws) (oppT v) (m + 1) := by
  refine ⟨Nat.succ_pos _, fun toks M i hM hs => ?_⟩
  obtain ⟨s1, s2⟩ := hs
  obtain ⟨p, p1, p2⟩ := h.2 toks (M - 1) (i + 1) (by omega) s2
  refine ⟨.neg p, ?_, ?_⟩
  · cases M with
    | zero => omega
    | succ M =>
      have p1 : facP toks M (i + 1) = .ok (p, i + 1 + ws.length) := p1
      unfold facP
      rw [if_pos s1.2, p1]
      show Except.ok (Ps.neg p, i + 1 + ws.length) = Except.ok (Ps.neg p, i + (ws.length + 1))
      rw [show i + 1 + ws.length = i + (ws.length + 1) by omega]
  · unfold bld
    rw [p2]
    rfl
theorem fl_tt : FL ["always"] .tt 0 := ⟨by decide, fun toks M i _ hs => by
  have s := hs.1.2
  refine ⟨.leaf .tt, ?_, by unfold bld; rfl⟩
  rw [fac_bas (by rw [s]; decide +kernel) (by rw [s]; decide +kernel)]
  unfold basP
  rw [if_pos s]
  rfl⟩
theorem fl_ff : FL ["never"] .ff 0 := ⟨by decide, fun toks M i _ hs => by
  have s := hs.1.2
  refine ⟨.leaf .ff, ?_, by unfold bld; rfl⟩
  rw [fac_bas (by rw [s]; decide +kernel) (by rw [s]; decide +kernel)]
  unfold basP
  rw [if_neg (by rw [s]; decide +kernel), if_pos s]
  rfl⟩
theorem name_ne {z u : Str} (h : isName z = true) (hu : isName u = false) : z.cps.toList ≠ u.cps.toList := fun e => by
  rw [str_eq.mpr e, hu] at h
  cases h
theorem bd_inB {n : Int} (h : Bd n) : inB n = true := by
  unfold inB
  rw [Bool.and_eq_true, decide_eq_true_iff, decide_eq_true_iff]
  exact h
theorem fl_cmp {g s : Str} {n : Int} (hg : isName g = true) (hs : s ∈ signs) (hn : Bd n) : FL [g, s, ((toString n : String) : Str)] (.cmp g s n) 0 := ⟨Nat.succ_pos _, fun toks M i _ h => by
  obtain ⟨⟨_, h1⟩, ⟨_, h2⟩, ⟨_, h3⟩, _⟩ := h
  have h3 : tokAt toks (i + 2) = ((toString n : String) : Str).cps.toList := h3
  refine ⟨.leaf (.cmp g s n), ?_, by unfold bld; rfl⟩
  rw [fac_bas (by rw [h1]; exact name_ne hg (by decide +kernel)) (by
    rw [h1]
    intro e
    have := (name_word hg).2 40 (by rw [e]; exact List.mem_cons_self)
    exact absurd this (by decide))]
  unfold basP
  rw [if_neg (by rw [h1]; exact name_ne hg (by decide +kernel)), if_neg (by rw [h1]; exact name_ne hg (by decide +kernel)), h1, mkS_self, if_pos hg, h2, mkS_self, if_pos hs, h3, rdI_num (bd_inB hn)]
  rfl⟩
end
section
variable {P : Program} {w : World} {K : PySem.W.Frag} {mg : Str → Option Value} {base : Heap}
variable {t_BOUND t_DIGITS t_LETTERS t_LONGEST_INTEGER t_LONGEST_NAME t_MOST_NESTED : Tok} {a_ALWAYS a_MARKS a_NEVER a_OPPOSITES a_RESERVED a_SIGNS a_BadName a_BadNumber a_BadSign a_BadText a_Condition a_ElseputError a_Reader a_TooLarge : Addr}
/-! ### leaves of what was parsed -/
mutual
def Pu : Ps → Prop
  | .leaf t => t.pure ∧ t.cs.length = 1
  | .neg p => Pu p
  | .grp _ l => Pus l
def Pus : List Ps → Prop
  | [] => True
  | p :: l => Pu p ∧ Pus l
end
mutual
def lc : Ps → Nat
  | .leaf _ => 1
  | .neg p => lc p
  | .grp _ l => lcs l
def lcs : List Ps → Nat
  | [] => 0
  | p :: l => lc p + lcs l
end
theorem fold_pu {w : Bool} : ∀ {r : List Tr} {t u : Tr}, t.pure → (∀ x ∈ r, x.pure) → foldT w t r = some u → u.pure ∧ u.cs.length = t.cs.length + (r.map fun x => x.cs.length).sum
  | [], t, u, ht, _, h => by
    cases h
    exact ⟨ht, rfl⟩
  | x :: r, t, u, ht, hr, h => by
    have hx := hr x List.mem_cons_self
    unfold foldT at h
    rw [joinT_pure ht hx] at h
    split at h
    · obtain ⟨h1, h2⟩ := fold_pu (r := r) (t := .con w t x) ⟨ht, hx⟩ (fun y hy => hr y (List.mem_cons_of_mem _ hy)) h
      refine ⟨h1, ?_⟩
      rw [h2, List.map_cons, List.sum_cons]
      show (t.cs ++ x.cs).length + _ = _
      rw [List.length_append]
      omega
    · cases h
mutual
theorem bld_pu : ∀ {p : Ps} {t : Tr}, Pu p → bld p = some t → t.pure ∧ t.cs.length = lc p
  | .leaf t, u, h, e => by
    unfold Pu at h
    unfold bld at e
    cases e
    unfold lc
    exact h
  | .neg p, u, h, e => by
    unfold Pu at h
    unfold bld at e
    obtain ⟨t, e1, rfl⟩ := Option.map_eq_some_iff.mp e
    obtain ⟨h1, h2⟩ := bld_pu h e1
    unfold lc
    exact ⟨opp_pure h1, by rw [oppT_cs, List.length_map]; exact h2⟩
  | .grp w l, u, h, e => by
    unfold Pu at h
    unfold bld at e
    obtain ⟨ts, e1, e2⟩ := Option.bind_eq_some_iff.mp e
    obtain ⟨h1, h2⟩ := blds_pu h e1
    unfold lc
    cases ts with
    | nil => cases e2
    | cons t r =>
      obtain ⟨k1, k2⟩ := fold_pu (h1 t List.mem_cons_self) (fun x hx => h1 x (List.mem_cons_of_mem _ hx)) e2
      refine ⟨k1, ?_⟩
      rw [k2, ← h2, List.map_cons, List.sum_cons]
theorem blds_pu : ∀ {l : List Ps} {ts : List Tr}, Pus l → blds l = some ts → (∀ t ∈ ts, t.pure) ∧ (ts.map fun x => x.cs.length).sum = lcs l
  | [], ts, _, e => by
    unfold blds at e
    cases e
    exact ⟨fun t h => (nomatch h), by unfold lcs; rfl⟩
  | p :: l, ts, h, e => by
    unfold Pus at h
    unfold blds at e
    obtain ⟨t, e1, e2⟩ := Option.bind_eq_some_iff.mp e
    obtain ⟨r, e3, rfl⟩ := Option.map_eq_some_iff.mp e2
    obtain ⟨a1, a2⟩ := bld_pu h.1 e1
    obtain ⟨b1, b2⟩ := blds_pu h.2 e3
    refine ⟨fun x hx => ?_, ?_⟩
    · rcases List.mem_cons.mp hx with rfl | hx
      · exact a1
      · exact b1 x hx
    · rw [List.map_cons, List.sum_cons, a2, b2]
      conv => rhs; unfold lcs
end
/-! ### a chain of factors, read to its end or to an error -/
/-- the first i factors stand; the one behind them fails, or ends the chain -/
structure Run (toks : Tks) (f : Nat → PO) (i : Nat) (js : Nat → Bool) : Prop where
  f : ∀ k, k < i → ∃ t : Tr, f (4 * k) = .ok (.leaf t, 4 * k + 3) ∧ t.pure ∧ t.cs.length = 1
  j : ∀ k, k < i → tokAt toks (4 * k + 3) = wdC (js k)
  l : i ≤ toks.length
def FinE (f : Nat → PO) (i e : Nat) : Prop := f (4 * i) = .error e
def FinO (toks : Tks) (f : Nat → PO) (i : Nat) : Prop := (∃ t : Tr, f (4 * i) = .ok (.leaf t, 4 * i + 3) ∧ t.pure ∧ t.cs.length = 1) ∧ tokAt toks (4 * i + 3) ≠ wdC true ∧ tokAt toks (4 * i + 3) ≠ wdC false
theorem wd_ne : wdC true ≠ wdC false := by decide +kernel
theorem pus_cons {t : Tr} {l : List Ps} (h1 : t.pure) (h2 : t.cs.length = 1) (h : Pus l) : Pus ([.leaf t] ++ l) := by
  show Pus (.leaf t :: l)
  unfold Pus Pu
  exact ⟨⟨h1, h2⟩, h⟩
theorem lcs_cons {t : Tr} {l : List Ps} : lcs ([.leaf t] ++ l) = 1 + lcs l := by
  show lcs (.leaf t :: l) = _
  conv => lhs; unfold lcs
  conv => lhs; unfold lc
/-- the factors that are joined by and -/
theorem run_and {toks : Tks} {f : Nat → PO} {i : Nat} {js : Nat → Bool} (R : Run toks f i js) (F : (∃ e, FinE f i e) ∨ FinO toks f i) : ∀ (d k n : Nat), i - k = d → k < i → d ≤ n →
    (∃ e, FinE f i e ∧ chn toks (wdC true) f n (4 * k + 3) = .error e) ∨ (∃ l k', k ≤ k' ∧ k' < i ∧ js k' = false ∧ chn toks (wdC true) f n (4 * k + 3) = .ok (l, 4 * k' + 3) ∧ Pus l ∧ lcs l = k' - k) ∨
    (∃ l, FinO toks f i ∧ chn toks (wdC true) f n (4 * k + 3) = .ok (l, 4 * i + 3) ∧ Pus l ∧ lcs l = i - k)
  | 0, k, n, hd, hk, _ => by omega
  | d + 1, k, n, hd, hk, hn => by
    cases n with
    | zero => omega
    | succ n =>
    have hj := R.j k hk
    cases hb : js k with
    | false =>
      rw [hb] at hj
      refine .inr (.inl ⟨[], k, Nat.le_refl _, hk, hb, chn_stop (by rw [hj]; exact wd_ne.symm), by unfold Pus; trivial, ?_⟩)
      unfold lcs
      omega
    | true =>
      rw [hb] at hj
      have e4 : 4 * k + 3 + 1 = 4 * (k + 1) := by omega
      by_cases hki : k + 1 < i
      · obtain ⟨t, ft, t1, t2⟩ := R.f (k + 1) hki
        have hc : chn toks (wdC true) f (n + 1) (4 * k + 3) = preL [.leaf t] (chn toks (wdC true) f n (4 * (k + 1) + 3)) := chn_on hj (by rw [e4]; exact ft)
        rcases run_and R F d (k + 1) n (by omega) hki (by omega) with ⟨e, he, hh⟩ | ⟨l, k', h1, h2, h3, h4, h5, h6⟩ | ⟨l, ho, h4, h5, h6⟩
        · exact .inl ⟨e, he, by rw [hc, hh]; rfl⟩
        · exact .inr (.inl ⟨[.leaf t] ++ l, k', by omega, h2, h3, by rw [hc, h4]; rfl, pus_cons t1 t2 h5, by rw [lcs_cons, h6]; omega⟩)
        · exact .inr (.inr ⟨[.leaf t] ++ l, ho, by rw [hc, h4]; rfl, pus_cons t1 t2 h5, by rw [lcs_cons, h6]; omega⟩)
      · obtain rfl : i = k + 1 := by omega
        rcases F with ⟨e, he⟩ | ho
        · exact .inl ⟨e, he, chn_err hj (by rw [e4]; exact he)⟩
        · obtain ⟨⟨t, ft, t1, t2⟩, n1, n2⟩ := id ho
          refine .inr (.inr ⟨[.leaf t] ++ [], ho, ?_, pus_cons t1 t2 (by unfold Pus; trivial), ?_⟩)
          · rw [chn_on hj (by rw [e4]; exact ft)]
            show preL _ (chn toks (wdC true) f n (4 * (k + 1) + 3)) = _
            rw [chn_stop n1]
            rfl
          · rw [lcs_cons]
            unfold lcs
            omega
theorem run_cj {toks : Tks} {f : Nat → PO} {i : Nat} {js : Nat → Bool} (R : Run toks f i js) (F : (∃ e, FinE f i e) ∨ FinO toks f i) (k : Nat) (hk : k ≤ i) :
    (∃ e, FinE f i e ∧ cjP toks f (4 * k) = .error e) ∨ (∃ p k', k ≤ k' ∧ k' < i ∧ js k' = false ∧ cjP toks f (4 * k) = .ok (p, 4 * k' + 3) ∧ Pu p ∧ lc p = k' - k + 1) ∨
    (∃ p, FinO toks f i ∧ cjP toks f (4 * k) = .ok (p, 4 * i + 3) ∧ Pu p ∧ lc p = i - k + 1) := by
  have hu : cjP toks f (4 * k) = grpP true (lstN toks (wdC true) f toks.length (4 * k)) := rfl
  by_cases hki : k < i
  · obtain ⟨t, ft, t1, t2⟩ := R.f k hki
    have hl : lstN toks (wdC true) f toks.length (4 * k) = preL [.leaf t] (chn toks (wdC true) f toks.length (4 * k + 3)) := lstN_ok ft
    have := R.l
    rcases run_and R F (i - k) k toks.length rfl hki (by omega) with ⟨e, he, hh⟩ | ⟨l, k', h1, h2, h3, h4, h5, h6⟩ | ⟨l, ho, h4, h5, h6⟩
    · exact .inl ⟨e, he, by rw [hu, hl, hh]; rfl⟩
    · refine .inr (.inl ⟨.grp true ([.leaf t] ++ l), k', h1, h2, h3, by rw [hu, hl, h4]; rfl, ?_, ?_⟩)
      · unfold Pu
        exact pus_cons t1 t2 h5
      · unfold lc
        rw [lcs_cons, h6]
        omega
    · refine .inr (.inr ⟨.grp true ([.leaf t] ++ l), ho, by rw [hu, hl, h4]; rfl, ?_, ?_⟩)
      · unfold Pu
        exact pus_cons t1 t2 h5
      · unfold lc
        rw [lcs_cons, h6]
        omega
  · obtain rfl : i = k := by omega
    rcases F with ⟨e, he⟩ | ho
    · refine .inl ⟨e, he, ?_⟩
      rw [hu]
      unfold lstN
      rw [show f (4 * i) = .error e from he]
      rfl
    · obtain ⟨⟨t, ft, t1, t2⟩, n1, n2⟩ := id ho
      refine .inr (.inr ⟨.grp true ([.leaf t] ++ []), ho, ?_, ?_, ?_⟩)
      · rw [hu, lstN_ok ft]
        show grpP true (preL _ (chn toks (wdC true) f toks.length (4 * i + 3))) = _
        rw [chn_stop n1]
        rfl
      · unfold Pu
        exact pus_cons t1 t2 (by unfold Pus; trivial)
      · unfold lc
        rw [lcs_cons]
        unfold lcs
        omega
theorem run_or {toks : Tks} {f : Nat → PO} {i : Nat} {js : Nat → Bool} (R : Run toks f i js) (F : (∃ e, FinE f i e) ∨ FinO toks f i) : ∀ (d k n : Nat), i - k ≤ d → k < i → js k = false → i - k ≤ n →
    (∃ e, FinE f i e ∧ chn toks (wdC false) (cjP toks f) n (4 * k + 3) = .error e) ∨ (∃ l, FinO toks f i ∧ chn toks (wdC false) (cjP toks f) n (4 * k + 3) = .ok (l, 4 * i + 3) ∧ Pus l ∧ lcs l = i - k)
  | 0, k, n, hd, hk, _, _ => by omega
  | d + 1, k, n, hd, hk, hb, hn => by
    cases n with
    | zero => omega
    | succ n =>
    have hj := R.j k hk
    rw [hb] at hj
    have e4 : 4 * k + 3 + 1 = 4 * (k + 1) := by omega
    have cons : ∀ {p : Ps} {l : List Ps}, Pu p → Pus l → Pus ([p] ++ l) := fun h1 h2 => by
      show Pus (_ :: _)
      unfold Pus
      exact ⟨h1, h2⟩
    have lcc : ∀ {p : Ps} {l : List Ps}, lcs ([p] ++ l) = lc p + lcs l := fun {p l} => by
      show lcs (p :: l) = _
      conv => lhs; unfold lcs
    rcases run_cj R F (k + 1) (by omega) with ⟨e, he, hh⟩ | ⟨p, k', h1, h2, h3, h4, h5, h6⟩ | ⟨p, ho, h4, h5, h6⟩
    · exact .inl ⟨e, he, chn_err hj (by rw [e4]; exact hh)⟩
    · have hc : chn toks (wdC false) (cjP toks f) (n + 1) (4 * k + 3) = preL [p] (chn toks (wdC false) (cjP toks f) n (4 * k' + 3)) := chn_on hj (by rw [e4]; exact h4)
      rcases run_or R F d k' n (by omega) h2 h3 (by omega) with ⟨e, he, hh⟩ | ⟨l, ho, q1, q2, q3⟩
      · exact .inl ⟨e, he, by rw [hc, hh]; rfl⟩
      · exact .inr ⟨[p] ++ l, ho, by rw [hc, q1]; rfl, cons h5 q2, by rw [lcc, h6, q3]; omega⟩
    · refine .inr ⟨[p] ++ [], ho, ?_, cons h5 (by unfold Pus; trivial), ?_⟩
      · rw [chn_on hj (by rw [e4]; exact h4)]
        show preL _ (chn toks (wdC false) (cjP toks f) n (4 * i + 3)) = _
        rw [chn_stop ho.2.2]
        rfl
      · rw [lcc, h6]
        unfold lcs
        omega
theorem run_cd {toks : Tks} {f : Nat → PO} {i : Nat} {js : Nat → Bool} (R : Run toks f i js) (F : (∃ e, FinE f i e) ∨ FinO toks f i) :
    (∃ e, FinE f i e ∧ cdP toks f 0 = .error e) ∨ (∃ p, FinO toks f i ∧ cdP toks f 0 = .ok (p, 4 * i + 3) ∧ Pu p ∧ lc p = i + 1) := by
  have hu : cdP toks f 0 = grpP false (lstN toks (wdC false) (cjP toks f) toks.length 0) := rfl
  have cons : ∀ {p : Ps} {l : List Ps}, Pu p → Pus l → Pu (.grp false ([p] ++ l)) := fun h1 h2 => by
    unfold Pu
    show Pus (_ :: _)
    unfold Pus
    exact ⟨h1, h2⟩
  have lcc : ∀ {p : Ps} {l : List Ps}, lc (.grp false ([p] ++ l)) = lc p + lcs l := fun {p l} => by
    conv => lhs; unfold lc
    show lcs (p :: l) = _
    conv => lhs; unfold lcs
  have := R.l
  rcases run_cj R F 0 (Nat.zero_le _) with ⟨e, he, hh⟩ | ⟨p, k', h1, h2, h3, h4, h5, h6⟩ | ⟨p, ho, h4, h5, h6⟩
  · refine .inl ⟨e, he, ?_⟩
    rw [hu]
    unfold lstN
    rw [show cjP toks f 0 = .error e from hh]
    rfl
  · have hl : lstN toks (wdC false) (cjP toks f) toks.length 0 = preL [p] (chn toks (wdC false) (cjP toks f) toks.length (4 * k' + 3)) := lstN_ok h4
    rcases run_or R F (i - k') k' toks.length (Nat.le_refl _) h2 h3 (by omega) with ⟨e, he, hh⟩ | ⟨l, ho, q1, q2, q3⟩
    · exact .inl ⟨e, he, by rw [hu, hl, hh]; rfl⟩
    · exact .inr ⟨.grp false ([p] ++ l), ho, by rw [hu, hl, q1]; rfl, cons h5 q2, by rw [lcc, h6, q3]; omega⟩
  · refine .inr ⟨.grp false ([p] ++ []), ho, ?_, cons h5 (by unfold Pus; trivial), ?_⟩
    · rw [hu, lstN_ok h4]
      show grpP false (preL _ (chn toks (wdC false) (cjP toks f) toks.length (4 * i + 3))) = _
      rw [chn_stop ho.2.2]
      rfl
    · rw [lcc, h6]
      unfold lcs
      omega
end
section
variable {P : Program} {w : World} {K : PySem.W.Frag} {mg : Str → Option Value} {base : Heap}
variable {t_BOUND t_DIGITS t_LETTERS t_LONGEST_INTEGER t_LONGEST_NAME t_MOST_NESTED : Tok} {a_ALWAYS a_MARKS a_NEVER a_OPPOSITES a_RESERVED a_SIGNS a_BadName a_BadNumber a_BadSign a_BadText a_Condition a_ElseputError a_Reader a_TooLarge : Addr}
/-! ### a laid line is split into its pieces -/
def Laid (zs : List Str) (cs : List Nat) (z : Str) : Prop := ∃ (lead tail : Nat) (gs : List (Nat × List Nat)), cs = cols (1 + lead) gs ∧ gs.map (·.2) = zs.map (·.cps.toList) ∧ Apart gs ∧ z.cps.toList = List.replicate lead 32 ++ lay gs (List.replicate tail 32) ∧ z.length ≤ 10000
theorem Laid.len {zs : List Str} {cs : List Nat} {z : Str} (h : Laid zs cs z) : cs.length = zs.length := by
  obtain ⟨l, t, gs, rfl, h1, _⟩ := h
  have := congrArg List.length h1
  rw [List.length_map, List.length_map] at this
  rw [cols_len, this]
theorem cols_le : ∀ {gs : List (Nat × List Nat)} {c x : Nat}, x ∈ cols c gs → x ≤ c + (lay gs []).length
  | [], _, _, h => nomatch h
  | (g, p) :: r, c, x, h => by
    rw [lay, List.length_append, List.length_append, List.length_replicate]
    rcases List.mem_cons.mp h with e | h
    · omega
    · have := cols_le h
      omega
theorem Laid.le {zs : List Str} {cs : List Nat} {z : Str} (h : Laid zs cs z) : ∀ c ∈ cs, c ≤ 10001 := by
  obtain ⟨l, t, gs, rfl, _, _, h4, h5⟩ := h
  intro c hc
  have := cols_le hc
  have hl := congrArg List.length h4
  rw [lay_tail, List.length_append, List.length_append, List.length_replicate, List.length_replicate, len_cps] at hl
  omega
theorem Laid.split {zs : List Str} {cs : List Nat} {z : Str} (h : Laid zs cs z) (ht : ∀ s ∈ zs, Tok s.cps.toList) : splitL z.cps.toList 1 = .ok ((zs.map (·.cps.toList)).zip cs) := by
  obtain ⟨l, t, gs, rfl, h2, h3, h4, _⟩ := h
  rw [h4, splitL_spaces, split_lay h3, h2]
  intro x hx
  have : x.2 ∈ zs.map (·.cps.toList) := by
    rw [← h2]
    exact List.mem_map.mpr ⟨x, hx, rfl⟩
  obtain ⟨s, hs, e⟩ := List.mem_map.mp this
  rw [← e]
  exact ht s hs
theorem Laid.bad {us vs : List Str} {c : Nat} {cs : List Nat} {z : Str} (h : Laid (us ++ (⟨#[c]⟩ : Str) :: vs) cs z) (ht : ∀ s ∈ us, Tok s.cps.toList) (hc : Strange c) : ∃ e, splitL z.cps.toList 1 = .error e ∧ cs[us.length]? = some e := by
  obtain ⟨l, t, gs, rfl, h2, h3, h4, _⟩ := h
  rw [List.map_append, List.map_cons] at h2
  obtain ⟨xs, r, rfl, e1, e2⟩ := List.map_eq_append_iff.mp h2
  obtain ⟨⟨g, p⟩, ys, rfl, e3, e4⟩ := List.map_eq_cons_iff.mp e2
  have e3 : p = [c] := e3
  subst e3
  have hl : xs.length = us.length := by
    have := congrArg List.length e1
    rwa [List.length_map, List.length_map] at this
  obtain ⟨e, q1, q2⟩ := split_bad (t := t) (c := 1 + l) h3 (fun x hx => by
    have : x.2 ∈ us.map (·.cps.toList) := by
      rw [← e1]
      exact List.mem_map.mpr ⟨x, hx, rfl⟩
    obtain ⟨s, hs, e⟩ := List.mem_map.mp this
    rw [← e]
    exact ht s hs) hc
  refine ⟨e, ?_, by rw [← hl]; exact q2⟩
  rw [h4, splitL_spaces]
  exact q1
def tk (zs : List Str) (j : Nat) : List Nat := (zs[j]?.map (·.cps.toList)).getD []
theorem tokAt_zip {zs : List Str} {cs : List Nat} (h : cs.length = zs.length) (j : Nat) : tokAt ((zs.map (·.cps.toList)).zip cs) j = tk zs j := by
  unfold tokAt tk
  rw [← List.getElem?_map, List.map_fst_zip (by rw [List.length_map, h]; exact Nat.le_refl _), List.getElem?_map]
theorem zip_len {zs : List Str} {cs : List Nat} (h : cs.length = zs.length) : ((zs.map (·.cps.toList)).zip cs).length = zs.length := by
  rw [List.length_zip, List.length_map, h, Nat.min_self]
/-! ### the words of a chain -/
def WOk (z : Str) : Prop := Tok z.cps.toList ∧ z.length ≤ 40
theorem sign_len {s : Str} (h : s ∈ signs) : s.length ≤ 2 := (by decide +kernel : ∀ s ∈ signs, s.length ≤ 2) s h
theorem wok_sm {z : Str} (h : inSM z.cps.toList = true) (hl : z.length ≤ 40) : WOk z := ⟨.sm h, hl⟩
theorem wok_word {z : Str} (h0 : z.cps.toList ≠ []) (h : ∀ c ∈ z.cps.toList, isL c = true) (hl : z.length ≤ 40) : WOk z := ⟨.word h0 h, hl⟩
theorem wok_sign {s : Str} (h : s ∈ signs) : WOk s := wok_sm ((by decide +kernel : ∀ s ∈ signs, inSM s.cps.toList = true) s h) (by have := sign_len h; omega)
theorem wok_name {z : Str} (h : isName z = true) : WOk z := by
  obtain ⟨h0, h1⟩ := name_word h
  have : z.length ≤ 12 := (isName_mem h).2.2.1
  exact wok_word h0 h1 (by omega)
theorem wok_num {n : Int} (h : Bd n) : WOk ((toString n : String) : Str) := ⟨num_tok n, by have := num_short (bd_inB h); omega⟩
theorem wok_p1 : WOk "(" := wok_sm (by decide +kernel) (by decide)
theorem wok_p2 : WOk ")" := wok_sm (by decide +kernel) (by decide)
theorem wok_al : WOk "always" := wok_word (by decide +kernel) (by decide +kernel) (by decide)
theorem wok_ne : WOk "never" := wok_word (by decide +kernel) (by decide +kernel) (by decide)
theorem wok_not : WOk "not" := wok_word (by decide +kernel) (by decide +kernel) (by decide)
theorem wok_wd (w : Bool) : WOk (wd w) := by
  cases w
  · exact wok_word (by decide +kernel) (by decide +kernel) (by decide)
  · exact wok_word (by decide +kernel) (by decide +kernel) (by decide)
def AllW (ws : List Str) : Prop := ∀ z ∈ ws, WOk z
theorem AllW.app {xs ys : List Str} (h : AllW xs) (k : AllW ys) : AllW (xs ++ ys) := fun z hz => (List.mem_append.mp hz).elim (h z) (k z)
theorem AllW.one {z : Str} (h : WOk z) : AllW [z] := fun y hy => by rw [List.mem_singleton.mp hy]; exact h
theorem AllW.cons {z : Str} {r : List Str} (h : WOk z) (k : AllW r) : AllW (z :: r) := AllW.app (AllW.one h) k
theorem AllW.par {b : Bool} {ws : List Str} (h : AllW ws) : AllW (parL b ws) := by
  unfold parL
  split
  · exact ((AllW.one wok_p1).app h).app (AllW.one wok_p2)
  · exact h
def tokB (p : List Nat) : Bool := (!p.isEmpty && p.all isL) || (!p.isEmpty && p.all isD) || (match p with | 45 :: r => !r.isEmpty && r.all isD | _ => false) || inSM p
theorem tok_of {p : List Nat} (h : tokB p = true) : Tok p := by
  unfold tokB at h
  rw [Bool.or_eq_true, Bool.or_eq_true, Bool.or_eq_true] at h
  have ne : ∀ {q : List Nat}, (!q.isEmpty) = true → q ≠ [] := fun {q} h e => by rw [e] at h; cases h
  rcases h with ((h | h) | h) | h
  · rw [Bool.and_eq_true] at h
    exact .word (ne h.1) (List.all_eq_true.mp h.2)
  · rw [Bool.and_eq_true] at h
    exact .int (ne h.1) (List.all_eq_true.mp h.2)
  · split at h
    · rw [Bool.and_eq_true] at h
      exact .neg (ne h.1) (List.all_eq_true.mp h.2)
    · cases h
  · exact .sm h
def bad2 (z : Str) : Bool := match PySem.intText? z with
  | none => true
  | some n => !decide (((toString n : String) : Str) = z) || !inB n
theorem bad2_rd {z : Str} (hl : z.length ≤ 40) (h : bad2 z = true) : rdI z.cps.toList = none := by
  cases e : rdI z.cps.toList with
  | none => rfl
  | some n =>
    obtain ⟨h1, h2⟩ := rdI_spec e
    rw [mkS_self] at h1
    have h3 := num_reads' (i := n) (by rw [← h1]; omega)
    rw [← h1] at h3
    unfold bad2 at h
    rw [h3] at h
    have h : (!decide (((toString n : String) : Str) = z) || !inB n) = true := h
    rw [decide_eq_true h1.symm, h2] at h
    cases h
def far : Str := ((toString (1000000000000000000000000000001 : Int) : String) : Str)

abbrev Cm := Str × Str × Int
def w3 (c : Cm) : List Str := [c.1, c.2.1, ((toString c.2.2 : String) : Str)]
def COk (c : Nat → Cm) : Prop := ∀ k, isName (c k).1 = true ∧ (c k).2.1 ∈ signs ∧ Bd (c k).2.2
/-- i comparisons, each with the word behind it -/
def cp (c : Nat → Cm) (j : Nat → Bool) : Nat → List Str
  | 0 => []
  | i + 1 => cp c j i ++ (w3 (c i) ++ [wd (j i)])
def cw (c : Nat → Cm) (j : Nat → Bool) : Nat → List Str
  | 0 => []
  | i + 1 => cp c j i ++ w3 (c i)
theorem cp_len (c : Nat → Cm) (j : Nat → Bool) : ∀ i, (cp c j i).length = 4 * i
  | 0 => rfl
  | i + 1 => by
    show (cp c j i ++ (w3 (c i) ++ [wd (j i)])).length = _
    rw [List.length_append, cp_len c j i]
    show 4 * i + 4 = _
    omega
theorem cp_get {c : Nat → Cm} {j : Nat → Bool} : ∀ {i k : Nat}, k < i → ∀ rest : List Str, (cp c j i ++ rest)[4 * k]? = some (c k).1 ∧ (cp c j i ++ rest)[4 * k + 1]? = some (c k).2.1 ∧ (cp c j i ++ rest)[4 * k + 2]? = some ((toString (c k).2.2 : String) : Str) ∧ (cp c j i ++ rest)[4 * k + 3]? = some (wd (j k))
  | 0, k, h, _ => by omega
  | i + 1, k, h, rest => by
    have e : cp c j (i + 1) ++ rest = cp c j i ++ ((w3 (c i) ++ [wd (j i)]) ++ rest) := by
      show (cp c j i ++ (w3 (c i) ++ [wd (j i)])) ++ rest = _
      rw [List.append_assoc]
    rw [e]
    by_cases hk : k < i
    · exact cp_get hk _
    · obtain rfl : k = i := by omega
      have g : ∀ r, (cp c j k ++ ((w3 (c k) ++ [wd (j k)]) ++ rest))[4 * k + r]? = ((w3 (c k) ++ [wd (j k)]) ++ rest)[r]? := fun r => by
        rw [List.getElem?_append_right (by rw [cp_len]; omega), cp_len, show 4 * k + r - 4 * k = r by omega]
      exact ⟨g 0, g 1, g 2, g 3⟩
theorem cp_w {c : Nat → Cm} (h : COk c) (j : Nat → Bool) : ∀ i, AllW (cp c j i)
  | 0 => fun z hz => nomatch hz
  | i + 1 => (cp_w h j i).app (AllW.app (.cons (wok_name (h i).1) (.cons (wok_sign (h i).2.1) (.one (wok_num (h i).2.2)))) (.one (wok_wd _)))
theorem w3_w {c : Nat → Cm} (h : COk c) (i : Nat) : AllW (w3 (c i)) := .cons (wok_name (h i).1) (.cons (wok_sign (h i).2.1) (.one (wok_num (h i).2.2)))
theorem cw_split (c : Nat → Cm) (j : Nat → Bool) : ∀ {n i : Nat}, i < n → ∃ r, cw c j n = cp c j i ++ (w3 (c i) ++ r)
  | 0, i, h => by omega
  | n + 1, i, h => by
    by_cases e : i = n
    · subst e
      exact ⟨[], by rw [List.append_nil]; rfl⟩
    · have : ∀ m, i < m → ∃ r, cp c j m = cp c j i ++ (w3 (c i) ++ r) := fun m hm => by
        induction m with
        | zero => omega
        | succ m ih =>
          by_cases e : i = m
          · subst e
            exact ⟨[wd (j i)], rfl⟩
          · obtain ⟨r, hr⟩ := ih (by omega)
            refine ⟨r ++ (w3 (c m) ++ [wd (j m)]), ?_⟩
            show cp c j m ++ (w3 (c m) ++ [wd (j m)]) = _
            rw [hr, List.append_assoc, List.append_assoc]
      obtain ⟨r, hr⟩ := this n (by omega)
      refine ⟨r ++ w3 (c n), ?_⟩
      show cp c j n ++ w3 (c n) = _
      rw [hr, List.append_assoc, List.append_assoc]
theorem cw_take {c : Nat → Cm} {j : Nat → Bool} {n i a : Nat} (h : i < n) (ha : a ≤ 3) : (cw c j n).take (4 * i + a) = cp c j i ++ (w3 (c i)).take a := by
  obtain ⟨r, hr⟩ := cw_split c j h
  rw [hr, List.take_append, cp_len, show 4 * i + a - 4 * i = a by omega, List.take_of_length_le (by rw [cp_len]; omega), List.take_append]
  rw [show a - (w3 (c i)).length = 0 by show a - 3 = 0; omega, List.take_zero, List.append_nil]
theorem cw_len (c : Nat → Cm) (j : Nat → Bool) (n : Nat) : (cw c j (n + 1)).length = 4 * n + 3 := by
  show (cp c j n ++ w3 (c n)).length = _
  rw [List.length_append, cp_len]
  rfl
theorem cw_w {c : Nat → Cm} (h : COk c) (j : Nat → Bool) (n : Nat) : AllW (cw c j n) := by
  cases n with
  | zero => exact fun z hz => nomatch hz
  | succ n => exact (cp_w h j n).app (w3_w h n)
theorem fac_cmp {toks : Tks} {M i : Nat} {g s : Str} {n : Int} (hg : isName g = true) (hs : s ∈ signs) (hn : Bd n) (h1 : tokAt toks i = g.cps.toList) (h2 : tokAt toks (i + 1) = s.cps.toList) (h3 : tokAt toks (i + 2) = ((toString n : String) : Str).cps.toList) :
    facP toks M i = .ok (.leaf (.cmp g s n), i + 3) := by
  rw [fac_bas (by rw [h1]; exact name_ne hg (by decide +kernel)) (by
    rw [h1]
    intro e
    have := (name_word hg).2 40 (by rw [e]; exact List.mem_cons_self)
    exact absurd this (by decide))]
  unfold basP
  rw [if_neg (by rw [h1]; exact name_ne hg (by decide +kernel)), if_neg (by rw [h1]; exact name_ne hg (by decide +kernel)), h1, mkS_self, if_pos hg, h2, mkS_self, if_pos hs, h3, rdI_num (bd_inB hn)]
theorem tk_some {zs : List Str} {j : Nat} {z : Str} (h : zs[j]? = some z) : tk zs j = z.cps.toList := by
  unfold tk
  rw [h]
  rfl
theorem tk_end {zs : List Str} {j : Nat} (h : zs.length ≤ j) : tk zs j = [] := by unfold tk; rw [List.getElem?_eq_none h]; rfl
/-- a row of tokens -/
def Row (toks : Tks) (zs : List Str) : Prop := (∀ j, tokAt toks j = tk zs j) ∧ toks.length = zs.length
theorem run_cp {c : Nat → Cm} {j : Nat → Bool} (h : COk c) {i M : Nat} {rest : List Str} {toks : Tks} (R : Row toks (cp c j i ++ rest)) : Run toks (facP toks M) i j := by
  refine ⟨fun k hk => ?_, fun k hk => ?_, ?_⟩
  · obtain ⟨g1, g2, g3, _⟩ := cp_get (c := c) (j := j) hk rest
    exact ⟨_, fac_cmp (h k).1 (h k).2.1 (h k).2.2 ((R.1 _).trans (tk_some g1)) ((R.1 _).trans (tk_some g2)) ((R.1 _).trans (tk_some g3)), True.intro, rfl⟩
  · obtain ⟨_, _, _, g4⟩ := cp_get (c := c) (j := j) hk rest
    exact (R.1 _).trans (tk_some g4)
  · rw [R.2, List.length_append, cp_len]
    omega
def colN (cs : List Nat) (k : Nat) (e : Int) : Int := (cs[k]?.map (fun n : Nat => (n : Int))).getD e
def Gives (zs : List Str) (o : Out) : Prop := ∀ (cs : List Nat) (z : Str), Laid zs cs z → ReadPre z ∧ outOf z = o
def Asks (zs : List Str) (k : Nat) : Prop := ∀ (cs : List Nat) (z : Str), Laid zs cs z → ReadPre z ∧ outOf z = .bad (colN cs k ((z.length : Int) + 1))
theorem pre_w {zs : List Str} {cs : List Nat} {z : Str} (h : Laid zs cs z) (hw : AllW zs) (hl : zs.length ≤ 200) : ReadPre z := by
  refine ⟨(by obtain ⟨_, _, _, _, _, _, _, h⟩ := h; exact h), fun toks e => ?_⟩
  rw [h.split fun s hs => (hw s hs).1] at e
  cases e
  refine ⟨fun x hx => ?_, fun j => ?_, by rw [zip_len h.len]; omega⟩
  · have hx := List.of_mem_zip (a := x.1) (b := x.2) hx
    obtain ⟨s, hs, e⟩ := List.mem_map.mp hx.1
    have := (hw s hs).2
    have := h.le _ hx.2
    rw [← e, len_cps]
    omega
  · rw [tokAt_zip h.len]
    unfold tk
    cases e : zs[j]? with
    | none => exact .inl rfl
    | some s => exact .inr (hw s (List.mem_of_getElem? e)).1
theorem row_zip {zs : List Str} {cs : List Nat} (h : cs.length = zs.length) : Row ((zs.map (·.cps.toList)).zip cs) zs := ⟨fun j => tokAt_zip h j, zip_len h⟩
theorem col_zip {zs : List Str} {cs : List Nat} (h : cs.length = zs.length) (j : Nat) (e : Int) : colAt ((zs.map (·.cps.toList)).zip cs) e j = colN cs j e := by
  unfold colAt colN
  have : ((zs.map (·.cps.toList)).zip cs).map (·.2) = cs := List.map_snd_zip (by rw [List.length_map, h]; exact Nat.le_refl _)
  conv => rhs; rw [← this, List.getElem?_map, Option.map_map]
  rfl
theorem asks_p {zs : List Str} {k : Nat} (hw : AllW zs) (hl : zs.length ≤ 200) (hp : ∀ toks, Row toks zs → fD toks 20 0 = .error k ∨ ∃ p, fD toks 20 0 = .ok (p, k) ∧ k ≠ zs.length) : Asks zs k := fun cs z h => by
  refine ⟨pre_w h hw hl, ?_⟩
  unfold outOf
  rw [h.split fun s hs => (hw s hs).1]
  show tOut _ _ = _
  unfold tOut
  rcases hp _ (row_zip h.len) with e | ⟨p, e, hk⟩
  · rw [e]
    show Out.bad (colAt _ _ k) = _
    rw [col_zip h.len]
  · rw [e]
    show (if k = ((zs.map (·.cps.toList)).zip cs).length then bOut (bld p) else Out.bad (colAt _ _ k)) = _
    rw [zip_len h.len, if_neg hk, col_zip h.len]
theorem gives_p {zs : List Str} {o : Out} (hw : AllW zs) (hl : zs.length ≤ 200) (hp : ∀ toks, Row toks zs → ∃ p, fD toks 20 0 = .ok (p, zs.length) ∧ bOut (bld p) = o) : Gives zs o := fun cs z h => by
  refine ⟨pre_w h hw hl, ?_⟩
  unfold outOf
  rw [h.split fun s hs => (hw s hs).1]
  show tOut _ _ = _
  unfold tOut
  obtain ⟨p, e, hb⟩ := hp _ (row_zip h.len)
  rw [e]
  show (if zs.length = ((zs.map (·.cps.toList)).zip cs).length then bOut (bld p) else Out.bad (colAt _ _ zs.length)) = _
  rw [zip_len h.len, if_pos rfl, hb]
theorem asks_bad {us vs : List Str} {c : Nat} (hw : AllW us) (hc : Strange c) : Asks (us ++ (⟨#[c]⟩ : Str) :: vs) us.length := fun cs z h => by
  obtain ⟨e, q1, q2⟩ := h.bad (fun s hs => (hw s hs).1) hc
  refine ⟨⟨(by obtain ⟨_, _, _, _, _, _, _, h⟩ := h; exact h), fun toks e2 => by rw [q1] at e2; cases e2⟩, ?_⟩
  unfold outOf
  rw [q1]
  unfold colN
  rw [q2]
  rfl
theorem asks_E {c : Nat → Cm} {j : Nat → Bool} (hc : COk c) {i e : Nat} {rest : List Str} (hw : AllW (cp c j i ++ rest)) (hl : (cp c j i ++ rest).length ≤ 200) (h : ∀ toks, Row toks (cp c j i ++ rest) → FinE (facP toks 20) i e) : Asks (cp c j i ++ rest) e := by
  refine asks_p hw hl fun toks R => ?_
  have f := h toks R
  rcases run_cd (run_cp hc R) (.inl ⟨e, f⟩) with ⟨e2, h2, h3⟩ | ⟨p, h2, _⟩
  · have h2 : facP toks 20 (4 * i) = .error e2 := h2
    rw [show facP toks 20 (4 * i) = .error e from f] at h2
    cases h2
    exact .inl h3
  · obtain ⟨⟨t, ft, _⟩, _⟩ := h2
    rw [show facP toks 20 (4 * i) = .error e from f] at ft
    cases ft
theorem asks_O {c : Nat → Cm} {j : Nat → Bool} (hc : COk c) {i : Nat} {u : Str} {rest : List Str} (hw : AllW (cp c j i ++ (w3 (c i) ++ u :: rest))) (hl : (cp c j i ++ (w3 (c i) ++ u :: rest)).length ≤ 200) (h1 : u.cps.toList ≠ wdC true) (h2 : u.cps.toList ≠ wdC false) : Asks (cp c j i ++ (w3 (c i) ++ u :: rest)) (4 * i + 3) := by
  refine asks_p hw hl fun toks R => ?_
  have g : ∀ r, (cp c j i ++ (w3 (c i) ++ u :: rest))[4 * i + r]? = (w3 (c i) ++ u :: rest)[r]? := fun r => by
    rw [List.getElem?_append_right (by rw [cp_len]; omega), cp_len, show 4 * i + r - 4 * i = r by omega]
  have f : FinO toks (facP toks 20) i := by
    refine ⟨⟨_, fac_cmp (hc i).1 (hc i).2.1 (hc i).2.2 ((R.1 _).trans (tk_some (g 0))) ((R.1 _).trans (tk_some (g 1))) ((R.1 _).trans (tk_some (g 2))), True.intro, rfl⟩, ?_, ?_⟩
    · rw [R.1, tk_some (g 3)]
      exact h1
    · rw [R.1, tk_some (g 3)]
      exact h2
  rcases run_cd (run_cp hc R) (.inr f) with ⟨e2, h2, h3⟩ | ⟨p, _, h3, _⟩
  · obtain ⟨⟨t, ft, _⟩, _⟩ := f
    rw [show facP toks 20 (4 * i) = .error e2 from h2] at ft
    cases ft
  · refine .inr ⟨p, h3, ?_⟩
    rw [List.length_append, cp_len, List.length_append]
    show _ ≠ 4 * i + (3 + (rest.length + 1))
    omega
theorem gives_big {c : Nat → Cm} {j : Nat → Bool} (hc : COk c) {n : Nat} (h8 : 8 < n + 1) (hn : n ≤ 40) : Gives (cw c j (n + 1)) .big := by
  refine gives_p (cw_w hc j _) (by rw [cw_len]; omega) fun toks R => ?_
  have R : Row toks (cp c j n ++ w3 (c n)) := R
  have g : ∀ r, (cp c j n ++ w3 (c n))[4 * n + r]? = (w3 (c n))[r]? := fun r => by
    rw [List.getElem?_append_right (by rw [cp_len]; omega), cp_len, show 4 * n + r - 4 * n = r by omega]
  have f : FinO toks (facP toks 20) n := by
    refine ⟨⟨_, fac_cmp (hc n).1 (hc n).2.1 (hc n).2.2 ((R.1 _).trans (tk_some (g 0))) ((R.1 _).trans (tk_some (g 1))) ((R.1 _).trans (tk_some (g 2))), True.intro, rfl⟩, ?_, ?_⟩
    · rw [R.1]
      have : tk (cp c j n ++ w3 (c n)) (4 * n + 3) = [] := tk_end (by rw [List.length_append, cp_len]; show 4 * n + 3 ≤ _; omega)
      rw [this]
      decide +kernel
    · rw [R.1]
      have : tk (cp c j n ++ w3 (c n)) (4 * n + 3) = [] := tk_end (by rw [List.length_append, cp_len]; show 4 * n + 3 ≤ _; omega)
      rw [this]
      decide +kernel
  rcases run_cd (run_cp hc R) (.inr f) with ⟨e2, h2, h3⟩ | ⟨p, _, h3, h4, h5⟩
  · obtain ⟨⟨t, ft, _⟩, _⟩ := f
    rw [show facP toks 20 (4 * n) = .error e2 from h2] at ft
    cases ft
  · refine ⟨p, by rw [cw_len]; exact h3, ?_⟩
    cases hb : bld p with
    | none => rfl
    | some t =>
      have g1 := (cd_g (by rw [R.2, List.length_append, cp_len]; show 4 * n + 3 ≤ _; omega) h3).1
      have g2 := (bld_tg g1 hb).c
      have g3 := (bld_pu h4 hb).2
      omega
theorem gives_D {ws : List Str} {v : Tr} {m : Nat} (h : DL ws v m) (hm : m ≤ 20) (hw : AllW ws) (hl : ws.length ≤ 200) : Gives ws (.ok v) := by
  refine gives_p hw hl fun toks R => ?_
  have hs : ∀ (xs : List Str) (i : Nat), (∀ j z, xs[j]? = some z → i + j < toks.length ∧ tokAt toks (i + j) = z.cps.toList) → Seg toks i xs := fun xs => by
    induction xs with
    | nil => exact fun _ _ => True.intro
    | cons z r ih => exact fun i h => ⟨h 0 z rfl, ih _ fun j y hy => by
        have := h (j + 1) y hy
        rw [show i + (j + 1) = i + 1 + j by omega] at this
        exact this⟩
  have sg : Seg toks 0 ws := hs ws 0 fun j z hz => by
    have := (List.getElem?_eq_some_iff.mp hz).1
    refine ⟨by rw [R.2]; omega, ?_⟩
    rw [Nat.zero_add, R.1, tk_some hz]
  have hend : tokAt toks (0 + ws.length) = [] := by rw [R.1, Nat.zero_add, tk_end (Nat.le_refl _)]
  obtain ⟨p, p1, p2⟩ := h.cd (M := 20) hm sg (by rw [hend]; decide +kernel) (by rw [hend]; decide +kernel)
  rw [Nat.zero_add] at p1
  exact ⟨p, p1, by rw [p2]; rfl⟩
end
section
variable {P : Program} {w : World} {K : PySem.W.Frag} {mg : Str → Option Value} {base : Heap}
variable {t_BOUND t_DIGITS t_LETTERS t_LONGEST_INTEGER t_LONGEST_NAME t_MOST_NESTED : Tok} {a_ALWAYS a_MARKS a_NEVER a_OPPOSITES a_RESERVED a_SIGNS a_BadName a_BadNumber a_BadSign a_BadText a_Condition a_ElseputError a_Reader a_TooLarge : Addr}
/-! ### where a chain is refused -/
def BadA : Nat → List Nat → Prop
  | 0, p => p ≠ ("not" : Str).cps.toList ∧ p ≠ [40] ∧ p ≠ ("always" : Str).cps.toList ∧ p ≠ ("never" : Str).cps.toList ∧ ¬ isName (mkS p) = true
  | 1, p => ¬ mkS p ∈ signs
  | 2, p => rdI p = none
  | _, p => p ≠ wdC true ∧ p ≠ wdC false
theorem fin_at {c : Nat → Cm} (hc : COk c) {i a : Nat} (ha : a < 3) {toks : Tks} {M : Nat} (h : ∀ r z, r < a → (w3 (c i))[r]? = some z → tokAt toks (4 * i + r) = z.cps.toList) (hb : BadA a (tokAt toks (4 * i + a))) : FinE (facP toks M) i (4 * i + a) := by
  unfold FinE
  match a, ha, h, hb with
  | 0, _, h, hb =>
    obtain ⟨b1, b2, b3, b4, b5⟩ := hb
    show facP toks M (4 * i) = .error (4 * i)
    rw [fac_bas (show tokAt toks (4 * i) ≠ _ from b1) (show tokAt toks (4 * i) ≠ _ from b2)]
    unfold basP
    rw [if_neg (show ¬ tokAt toks (4 * i) = _ from b3), if_neg (show ¬ tokAt toks (4 * i) = _ from b4), if_neg (show ¬ isName (mkS (tokAt toks (4 * i))) = true from b5)]
  | 1, _, h, hb =>
    have h1 : tokAt toks (4 * i) = (c i).1.cps.toList := h 0 _ (by decide) rfl
    have hg := (hc i).1
    rw [fac_bas (by rw [h1]; exact name_ne hg (by decide +kernel)) (by
      rw [h1]
      intro e
      have := (name_word hg).2 40 (by rw [e]; exact List.mem_cons_self)
      exact absurd this (by decide))]
    unfold basP
    rw [if_neg (by rw [h1]; exact name_ne hg (by decide +kernel)), if_neg (by rw [h1]; exact name_ne hg (by decide +kernel)), h1, mkS_self, if_pos hg, if_neg (show ¬ mkS (tokAt toks (4 * i + 1)) ∈ signs from hb)]
  | 2, _, h, hb =>
    have h1 : tokAt toks (4 * i) = (c i).1.cps.toList := h 0 _ (by decide) rfl
    have h2 : tokAt toks (4 * i + 1) = (c i).2.1.cps.toList := h 1 _ (by decide) rfl
    have hg := (hc i).1
    rw [fac_bas (by rw [h1]; exact name_ne hg (by decide +kernel)) (by
      rw [h1]
      intro e
      have := (name_word hg).2 40 (by rw [e]; exact List.mem_cons_self)
      exact absurd this (by decide))]
    unfold basP
    rw [if_neg (by rw [h1]; exact name_ne hg (by decide +kernel)), if_neg (by rw [h1]; exact name_ne hg (by decide +kernel)), h1, mkS_self, if_pos hg, h2, mkS_self, if_pos (hc i).2.1, show rdI (tokAt toks (4 * i + 2)) = none from hb]
theorem bad_nil : ∀ a, BadA a []
  | 0 => by
    unfold BadA
    exact ⟨by decide +kernel, by decide, by decide +kernel, by decide +kernel, by decide +kernel⟩
  | 1 => by
    show ¬ mkS [] ∈ signs
    decide +kernel
  | 2 => (bad2_rd (z := "") (by decide +kernel) (by decide +kernel) : rdI ("" : Str).cps.toList = none)
  | _ + 3 => by
    unfold BadA
    exact ⟨by decide +kernel, by decide +kernel⟩
theorem all_sub {xs ys : List Str} (h : AllW ys) (hs : ∀ z ∈ xs, z ∈ ys) : AllW xs := fun z hz => h z (hs z hz)
theorem get_tail {c : Nat → Cm} {j : Nat → Bool} {i : Nat} {rest : List Str} (r : Nat) : (cp c j i ++ rest)[4 * i + r]? = rest[r]? := by
  rw [List.getElem?_append_right (by rw [cp_len]; omega), cp_len, show 4 * i + r - 4 * i = r by omega]
theorem asks_tl {c : Nat → Cm} {j : Nat → Bool} (hc : COk c) {i a : Nat} (ha : a < 3) {tl : List Str} (hw : AllW (cp c j i ++ ((w3 (c i)).take a ++ tl))) (hl : (cp c j i ++ ((w3 (c i)).take a ++ tl)).length ≤ 200) (hb : BadA a (tk tl 0)) : Asks (cp c j i ++ ((w3 (c i)).take a ++ tl)) (4 * i + a) := by
  have l3 : ((w3 (c i)).take a).length = a := by
    rw [List.length_take]
    show min a 3 = a
    omega
  refine asks_E hc hw hl fun toks R => fin_at hc ha (fun r z hr hz => ?_) ?_
  · rw [R.1]
    refine tk_some ?_
    rw [get_tail, List.getElem?_append_left (by rw [l3]; exact hr), List.getElem?_take, if_pos hr]
    exact hz
  · rw [R.1]
    have : tk (cp c j i ++ ((w3 (c i)).take a ++ tl)) (4 * i + a) = tk tl 0 := by
      unfold tk
      rw [get_tail, List.getElem?_append_right (by rw [l3]; exact Nat.le_refl _), l3, Nat.sub_self]
    rw [this]
    exact hb
theorem asks_cut {c : Nat → Cm} {j : Nat → Bool} (hc : COk c) {n i a : Nat} (hi : i < n) (hn : n ≤ 40) (ha : a < 3) : Asks ((cw c j n).take (4 * i + a)) (4 * i + a) := by
  have hw := all_sub (xs := (cw c j n).take (4 * i + a)) (cw_w hc j n) fun z hz => List.mem_of_mem_take hz
  rw [cw_take hi (by omega)] at hw ⊢
  have e : cp c j i ++ (w3 (c i)).take a = cp c j i ++ ((w3 (c i)).take a ++ []) := by rw [List.append_nil]
  rw [e] at hw ⊢
  refine asks_tl hc ha hw ?_ (bad_nil a)
  rw [List.length_append, cp_len, List.append_nil, List.length_take]
  show 4 * i + min a 3 ≤ _
  omega
def Unf (a : Nat) (u : Str) : Prop := WOk u ∧ BadA a u.cps.toList
theorem cw_ln {c : Nat → Cm} {j : Nat → Bool} (n : Nat) : (cw c j n).length ≤ 4 * n := by
  cases n with
  | zero => exact Nat.le_refl _
  | succ n => rw [cw_len]; omega
theorem asks_unf {c : Nat → Cm} {j : Nat → Bool} (hc : COk c) {n i a : Nat} {u : Str} (hi : i < n) (hn : n ≤ 40) (ha : a < 4) (hu : Unf a u) : Asks ((cw c j n).take (4 * i + a) ++ u :: (cw c j n).drop (4 * i + a + 1)) (4 * i + a) := by
  have hwd : AllW ((cw c j n).drop (4 * i + a + 1)) := all_sub (cw_w hc j n) fun z hz => List.mem_of_mem_drop hz
  have hw : AllW ((cw c j n).take (4 * i + a) ++ u :: (cw c j n).drop (4 * i + a + 1)) := (all_sub (cw_w hc j n) fun z hz => List.mem_of_mem_take hz).app (.cons hu.1 hwd)
  have hl : ((cw c j n).take (4 * i + a) ++ u :: (cw c j n).drop (4 * i + a + 1)).length ≤ 200 := by
    have := cw_ln (c := c) (j := j) n
    rw [List.length_append, List.length_cons, List.length_take, List.length_drop]
    omega
  generalize (cw c j n).drop (4 * i + a + 1) = dr at hw hl hwd ⊢
  rw [cw_take hi (by omega), List.append_assoc] at hw hl ⊢
  by_cases h3 : a < 3
  · exact asks_tl hc h3 hw hl hu.2
  · obtain rfl : a = 3 := by omega
    obtain ⟨b1, b2⟩ := hu.2
    exact asks_O hc hw hl b1 b2
def chk (k : Nat) (z : Str) : Bool := tokB z.cps.toList && decide (z.length ≤ 40) && (match k with
  | 0 => !decide (z = "not") && !decide (z = "(") && !decide (z = "always") && !decide (z = "never") && !isName z
  | 1 => !decide (z ∈ signs)
  | 2 => bad2 z
  | _ => !decide (z = "and") && !decide (z = "or"))
theorem ne_cps {a b : Str} (h : (!decide (a = b)) = true) : a.cps.toList ≠ b.cps.toList := fun e => by
  rw [Bool.not_eq_true', decide_eq_false_iff_not] at h
  exact h (str_eq.mpr e)
theorem unf_of {k : Nat} {z : Str} (hk : k < 4) (h : chk k z = true) : Unf k z := by
  unfold chk at h
  rw [Bool.and_eq_true, Bool.and_eq_true, decide_eq_true_iff] at h
  obtain ⟨⟨h1, h2⟩, h4⟩ := h
  have t := tok_of h1
  refine ⟨⟨t, h2⟩, ?_⟩
  match k, hk with
  | 0, _ =>
    have h4 : (!decide (z = "not") && !decide (z = "(") && !decide (z = "always") && !decide (z = "never") && !isName z) = true := h4
    simp only [Bool.and_eq_true] at h4
    obtain ⟨⟨⟨⟨q1, q2⟩, q3⟩, q4⟩, q5⟩ := h4
    refine ⟨ne_cps q1, ne_cps q2, ne_cps q3, ne_cps q4, ?_⟩
    rw [mkS_self]
    rw [Bool.not_eq_true'] at q5
    rw [q5]
    decide
  | 1, _ =>
    have h4 : (!decide (z ∈ signs)) = true := h4
    show ¬ mkS z.cps.toList ∈ signs
    rw [mkS_self]
    rw [Bool.not_eq_true', decide_eq_false_iff_not] at h4
    exact h4
  | 2, _ => exact bad2_rd h2 h4
  | 3, _ =>
    have h4 : (!decide (z = "and") && !decide (z = "or")) = true := h4
    rw [Bool.and_eq_true] at h4
    exact ⟨ne_cps h4.1, ne_cps h4.2⟩
def unfL : Nat → List Str
  | 0 => ["<", "==", "5", "-3", ")", ",", ";", ":", "and", "or", "when", "set", "keys", "tell", "abcdefghijklm"]
  | 1 => ["n", "5", "-5", "(", ")", ",", ";", ":", "and", "not", "always", "never", "add", "abcdefghijklm"]
  | 2 => ["01", "-0", "00", "-07", far, "-" ++ far, "n", "<", "(", ")", ":", "or", "never", "not"]
  | _ => ["n", "5", "-5", "<", "(", ")", ",", ";", ":", "not", "always", "never", "when", "abcdefghijklm"]
theorem unfL_chk : ∀ k, k < 4 → (unfL k).all (chk k) = true
  | 0, _ => by decide +kernel
  | 1, _ => by decide +kernel
  | 2, _ => by decide +kernel
  | 3, _ => by decide +kernel
theorem unfL_len : ∀ k, k < 4 → 0 < (unfL k).length ∧ (unfL k).length ≤ 15
  | 0, _ => by decide
  | 1, _ => by decide
  | 2, _ => by decide
  | 3, _ => by decide
theorem unfL_ok {k : Nat} (hk : k < 4) {z : Str} (h : z ∈ unfL k) : Unf k z := unf_of hk (List.all_eq_true.mp (unfL_chk k hk) z h)
end
section
variable {P : Program} {w : World} {K : PySem.W.Frag} {mg : Str → Option Value} {base : Heap}
variable {t_BOUND t_DIGITS t_LETTERS t_LONGEST_INTEGER t_LONGEST_NAME t_MOST_NESTED : Tok} {a_ALWAYS a_MARKS a_NEVER a_OPPOSITES a_RESERVED a_SIGNS a_BadName a_BadNumber a_BadSign a_BadText a_Condition a_ElseputError a_Reader a_TooLarge : Addr}
/-! ### deep lines -/
def opW (b : Bool) : Str := if b = true then "not" else "("
def opsW (ops : List Bool) : List Str := ops.map opW
def nP : List Bool → Nat
  | [] => 0
  | true :: r => nP r
  | false :: r => nP r + 1
def opN : List Bool → Tr → Tr
  | [], v => v
  | true :: r, v => oppT (opN r v)
  | false :: r, v => opN r v
def clos (n : Nat) : List Str := List.replicate n (")" : Str)
theorem fl_deep {ws : List Str} {v : Tr} (h : FL ws v 0) : ∀ ops : List Bool, FL (opsW ops ++ ws ++ clos (nP ops)) (opN ops v) ops.length
  | [] => by
    show FL ([] ++ ws ++ []) v 0
    rw [List.append_nil]
    exact h
  | true :: r => (fl_deep h r).nt
  | false :: r => by
    have p := (fl_deep h r).c.d.par
    have e : parL true (opsW r ++ ws ++ clos (nP r)) = opsW (false :: r) ++ ws ++ clos (nP (false :: r)) := by
      show (["("] : List Str) ++ (opsW r ++ ws ++ clos (nP r)) ++ ([")"] : List Str) = (("(" : Str) :: opsW r) ++ ws ++ List.replicate (nP r + 1) (")" : Str)
      rw [List.replicate_succ']
      unfold clos
      simp only [List.cons_append, List.nil_append, List.append_assoc]
    rw [e] at p
    exact p
theorem cd_err {toks : Tks} {f : Nat → PO} {i e : Nat} (h : f i = .error e) : cdP toks f i = .error e := by
  have h1 : cjP toks f i = .error e := by
    show grpP true (lstN toks (wdC true) f toks.length i) = _
    unfold lstN
    rw [h]
    rfl
  show grpP false (lstN toks (wdC false) (cjP toks f) toks.length i) = _
  unfold lstN
  rw [h1]
  rfl
theorem opW_not : (opW true).cps.toList = ("not" : Str).cps.toList := rfl
/-- more than the depth allows -/
theorem deep_err {toks : Tks} : ∀ {M i : Nat} {ops : List Bool}, M < ops.length → Seg toks i (opsW ops) → facP toks M i = .error (i + M)
  | 0, i, [], h, _ => by cases h
  | 0, i, b :: r, _, hs => by
    have h1 : tokAt toks i = (opW b).cps.toList := hs.1.2
    show basP toks i = .error i
    unfold basP
    rw [h1]
    cases b with
    | true => rw [if_neg (by decide +kernel), if_neg (by decide +kernel), if_neg (by decide +kernel)]
    | false => rw [if_neg (by decide +kernel), if_neg (by decide +kernel), if_neg (by decide +kernel)]
  | M + 1, i, [], h, _ => by cases h
  | M + 1, i, true :: r, h, hs => by
    have ih := deep_err (M := M) (i := i + 1) (ops := r) (Nat.lt_of_succ_lt_succ h) hs.2
    have h1 : tokAt toks i = ("not" : Str).cps.toList := hs.1.2
    unfold facP
    rw [if_pos h1, ih]
    show Except.error _ = Except.error _
    rw [show i + 1 + M = i + (M + 1) by omega]
  | M + 1, i, false :: r, h, hs => by
    have ih := deep_err (M := M) (i := i + 1) (ops := r) (Nat.lt_of_succ_lt_succ h) hs.2
    have h1 : tokAt toks i = ("(" : Str).cps.toList := hs.1.2
    unfold facP
    rw [if_neg (by rw [h1]; decide +kernel), if_pos (by rw [h1]; decide +kernel), cd_err ih]
    show Except.error _ = Except.error _
    rw [show i + 1 + M = i + (M + 1) by omega]
/-- one closing parenthesis too few -/
theorem deep_open {ws : List Str} {v : Tr} (h : FL ws v 0) {toks : Tks} : ∀ {ops : List Bool} {M i : Nat}, ops.length ≤ M → 0 < nP ops → Seg toks i (opsW ops ++ ws ++ clos (nP ops - 1)) → i + (opsW ops ++ ws ++ clos (nP ops - 1)).length = toks.length → facP toks M i = .error toks.length
  | [], _, _, _, hn, _, _ => by cases hn
  | true :: r, M, i, hM, hn, hs, he => by
    cases M with
    | zero => cases hM
    | succ M =>
      have hs2 : Seg toks (i + 1) (opsW r ++ ws ++ clos (nP r - 1)) := hs.2
      have he2 : i + ((opsW r ++ ws ++ clos (nP r - 1)).length + 1) = toks.length := he
      have ih := deep_open h (ops := r) (M := M) (i := i + 1) (Nat.le_of_succ_le_succ hM) hn hs2 (by omega)
      have h1 : tokAt toks i = ("not" : Str).cps.toList := hs.1.2
      unfold facP
      rw [if_pos h1, ih]
      rfl
  | false :: r, M, i, hM, hn, hs, he => by
    cases M with
    | zero => cases hM
    | succ M =>
      have en : nP (false :: r) - 1 = nP r := rfl
      rw [en] at hs he
      have hs2 : Seg toks (i + 1) (opsW r ++ ws ++ clos (nP r)) := hs.2
      have he2 : i + ((opsW r ++ ws ++ clos (nP r)).length + 1) = toks.length := he
      have hend : tokAt toks (i + 1 + (opsW r ++ ws ++ clos (nP r)).length) = [] := tokAt_end (by omega)
      obtain ⟨p, p1, _⟩ := (fl_deep h r).c.d.cd (M := M) (i := i + 1) (Nat.le_of_succ_le_succ hM) hs2 (by rw [hend]; decide +kernel) (by rw [hend]; decide +kernel)
      have h1 : tokAt toks i = ("(" : Str).cps.toList := hs.1.2
      unfold facP
      rw [if_neg (by rw [h1]; decide +kernel), if_pos (by rw [h1]; decide +kernel), p1]
      show (if tokAt toks (i + 1 + (opsW r ++ ws ++ clos (nP r)).length) = [41] then Except.ok (p, i + 1 + (opsW r ++ ws ++ clos (nP r)).length + 1) else Except.error (i + 1 + (opsW r ++ ws ++ clos (nP r)).length) : PO) = _
      rw [if_neg (by rw [hend]; decide), show i + 1 + (opsW r ++ ws ++ clos (nP r)).length = toks.length by omega]
theorem seg_row {toks : Tks} {zs : List Str} (R : Row toks zs) : Seg toks 0 zs := by
  have hs : ∀ (xs : List Str) (i : Nat), (∀ j z, xs[j]? = some z → i + j < toks.length ∧ tokAt toks (i + j) = z.cps.toList) → Seg toks i xs := fun xs => by
    induction xs with
    | nil => exact fun _ _ => True.intro
    | cons z r ih => exact fun i h => ⟨h 0 z rfl, ih _ fun j y hy => by
        have := h (j + 1) y hy
        rw [show i + (j + 1) = i + 1 + j by omega] at this
        exact this⟩
  exact hs zs 0 fun j z hz => by
    have := (List.getElem?_eq_some_iff.mp hz).1
    refine ⟨by rw [R.2]; omega, ?_⟩
    rw [Nat.zero_add, R.1, tk_some hz]
theorem wok_op (b : Bool) : WOk (opW b) := by
  cases b
  · exact wok_p1
  · exact wok_not
theorem ops_w (ops : List Bool) : AllW (opsW ops) := fun z hz => by
  obtain ⟨b, _, rfl⟩ := List.mem_map.mp hz
  exact wok_op b
theorem clos_w (n : Nat) : AllW (clos n) := fun z hz => by
  rw [List.eq_of_mem_replicate hz]
  exact wok_p2
theorem nP_le : ∀ ops : List Bool, nP ops ≤ ops.length
  | [] => Nat.le_refl _
  | true :: r => Nat.le_succ_of_le (nP_le r)
  | false :: r => Nat.succ_le_succ (nP_le r)
theorem asks_deep {ops : List Bool} {ws : List Str} (hl : ops.length = 21) (hw : AllW ws) (h2 : ws.length ≤ 100) : Asks (opsW ops ++ ws) 20 := by
  have lo : (opsW ops).length = 21 := by unfold opsW; rw [List.length_map, hl]
  refine asks_p ((ops_w ops).app hw) (by rw [List.length_append, lo]; omega) fun toks R => .inl ?_
  have := deep_err (M := 20) (i := 0) (ops := ops) (by omega) (seg_app.mp (seg_row R)).1
  rw [Nat.zero_add] at this
  exact cd_err this
theorem asks_open {ops : List Bool} {ws : List Str} {v : Tr} (h : FL ws v 0) (hl : ops.length = 20) (hn : 0 < nP ops) (hw : AllW ws) (h2 : ws.length ≤ 100) : Asks (opsW ops ++ ws ++ clos (nP ops - 1)) (opsW ops ++ ws ++ clos (nP ops - 1)).length := by
  have lo : (opsW ops).length = 20 := by unfold opsW; rw [List.length_map, hl]
  have := nP_le ops
  refine asks_p (((ops_w ops).app hw).app (clos_w _)) (by rw [List.length_append, List.length_append, lo]; unfold clos; rw [List.length_replicate]; omega) fun toks R => .inl ?_
  have := deep_open h (ops := ops) (M := 20) (i := 0) (by omega) hn (seg_row R) (by rw [Nat.zero_add, R.2])
  rw [R.2] at this
  exact cd_err this
end
section
variable {P : Program} {w : World} {K : PySem.W.Frag} {mg : Str → Option Value} {base : Heap}
variable {t_BOUND t_DIGITS t_LETTERS t_LONGEST_INTEGER t_LONGEST_NAME t_MOST_NESTED : Tok} {a_ALWAYS a_MARKS a_NEVER a_OPPOSITES a_RESERVED a_SIGNS a_BadName a_BadNumber a_BadSign a_BadText a_Condition a_ElseputError a_Reader a_TooLarge : Addr}
/-! ### the tree of a chain -/
def lf (c : Cm) : Tr := .cmp c.1 c.2.1 c.2.2
def pts (c : Nat → Cm) (j : Nat → Bool) : Nat → List Tr × Tr
  | 0 => ([], lf (c 0))
  | k + 1 => if j k = true then ((pts c j k).1, .con true (pts c j k).2 (lf (c (k + 1)))) else ((pts c j k).1 ++ [(pts c j k).2], lf (c (k + 1)))
def orT : List Tr → Tr
  | [] => .tt
  | p :: r => r.foldl (fun t u => .con false t u) p
theorem orT_snoc {ps : List Tr} {v : Tr} (h : ps ≠ []) : orT (ps ++ [v]) = .con false (orT ps) v := by
  cases ps with
  | nil => exact absurd rfl h
  | cons p r =>
    show (r ++ [v]).foldl _ p = _
    rw [List.foldl_append]
    rfl
theorem cw_next (c : Nat → Cm) (j : Nat → Bool) (k : Nat) : cw c j (k + 2) = cw c j (k + 1) ++ [wd (j k)] ++ w3 (c (k + 1)) := by
  show (cp c j k ++ (w3 (c k) ++ [wd (j k)])) ++ w3 (c (k + 1)) = cp c j k ++ w3 (c k) ++ [wd (j k)] ++ w3 (c (k + 1))
  simp only [List.append_assoc]
theorem fl_c {c : Nat → Cm} (h : COk c) (k : Nat) : FL (w3 (c k)) (lf (c k)) 0 := fl_cmp (h k).1 (h k).2.1 (h k).2.2
def ChI (c : Nat → Cm) (j : Nat → Bool) (k : Nat) : Prop :=
  ((pts c j k).1 = [] ∧ (pts c j k).2.pure ∧ (pts c j k).2.cs.length = k + 1 ∧ CL (cw c j (k + 1)) (pts c j k).2 0) ∨
  ((pts c j k).1 ≠ [] ∧ (orT (pts c j k).1).pure ∧ (pts c j k).2.pure ∧ (orT (pts c j k).1).cs.length + (pts c j k).2.cs.length = k + 1 ∧ ∃ ws1 ws2, cw c j (k + 1) = ws1 ++ [wd false] ++ ws2 ∧ DL ws1 (orT (pts c j k).1) 0 ∧ CL ws2 (pts c j k).2 0)
theorem con_len (w : Bool) (l r : Tr) : (Tr.con w l r).cs.length = l.cs.length + r.cs.length := by
  show (l.cs ++ r.cs).length = _
  rw [List.length_append]
theorem jp {w : Bool} {l r : Tr} (hl : l.pure) (hr : r.pure) (hc : l.cs.length + r.cs.length ≤ 8) : (joinT w l r).cs.length ≤ 8 := by
  rw [joinT_pure hl hr, con_len]
  exact hc
/-- the whole of it -/
def duT (c : Nat → Cm) (j : Nat → Bool) (k : Nat) : Tr := orT ((pts c j k).1 ++ [(pts c j k).2])
theorem chI_d {c : Nat → Cm} {j : Nat → Bool} {k : Nat} (hk : k ≤ 7) (h : ChI c j k) : DL (cw c j (k + 1)) (duT c j k) 0 ∧ (duT c j k).pure ∧ (duT c j k).cs.length = k + 1 := by
  unfold duT
  rcases h with ⟨h1, h2, h3, h4⟩ | ⟨h1, h2, h3, h4, ws1, ws2, h5, h6, h7⟩
  · rw [h1]
    exact ⟨h4.d, h2, h3⟩
  · rw [orT_snoc h1]
    refine ⟨?_, ⟨h2, h3⟩, by rw [con_len]; exact h4⟩
    have := h6.snoc h7 (jp h2 h3 (by omega))
    rw [joinT_pure h2 h3, ← h5] at this
    exact this
theorem chI {c : Nat → Cm} {j : Nat → Bool} (hc : COk c) : ∀ k, k ≤ 7 → ChI c j k
  | 0, _ => .inl ⟨rfl, True.intro, rfl, (fl_c hc 0).c⟩
  | k + 1, hk => by
    have ih := chI (j := j) hc k (by omega)
    obtain ⟨d1, d2, d3⟩ := chI_d (by omega) ih
    have pl : (lf (c (k + 1))).pure := True.intro
    have ll : (lf (c (k + 1))).cs.length = 1 := rfl
    unfold ChI
    cases hj : j k with
    | true =>
      have e : pts c j (k + 1) = ((pts c j k).1, .con true (pts c j k).2 (lf (c (k + 1)))) := by
        show (if j k = true then _ else _) = _
        rw [if_pos hj]
      rw [e, cw_next, hj]
      rcases ih with ⟨h1, h2, h3, h4⟩ | ⟨h1, h2, h3, h4, ws1, ws2, h5, h6, h7⟩
      · have := h4.snoc (fl_c hc (k + 1)) (jp h2 pl (by omega))
        rw [joinT_pure h2 pl] at this
        exact .inl ⟨h1, ⟨h2, pl⟩, by rw [con_len]; omega, this⟩
      · have := h7.snoc (fl_c hc (k + 1)) (jp h3 pl (by omega))
        rw [joinT_pure h3 pl] at this
        exact .inr ⟨h1, h2, ⟨h3, pl⟩, by show (orT (pts c j k).1).cs.length + (Tr.con true (pts c j k).2 (lf (c (k + 1)))).cs.length = _; rw [con_len]; omega, ws1, _, by rw [h5]; simp only [List.append_assoc], h6, this⟩
    | false =>
      have e : pts c j (k + 1) = ((pts c j k).1 ++ [(pts c j k).2], lf (c (k + 1))) := by
        show (if j k = true then _ else _) = _
        rw [if_neg (by rw [hj]; decide)]
      rw [e, cw_next, hj]
      refine .inr ⟨by simp, d2, pl, ?_, cw c j (k + 1), w3 (c (k + 1)), rfl, d1, (fl_c hc (k + 1)).c⟩
      show (duT c j k).cs.length + 1 = _
      omega
theorem gives_ch {c : Nat → Cm} {j : Nat → Bool} (hc : COk c) {k : Nat} (hk : k ≤ 40) : Gives (cw c j (k + 1)) (if k < 8 then .ok (duT c j k) else .big) := by
  by_cases h : k < 8
  · rw [if_pos h]
    exact gives_D (chI_d (by omega) (chI hc k (by omega))).1 (by decide) (cw_w hc j _) (by rw [cw_len]; omega)
  · rw [if_neg h]
    exact gives_big hc (by omega) hk
end
section
variable {P : Program} {w : World} {K : PySem.W.Frag} {mg : Str → Option Value} {base : Heap}
variable {t_BOUND t_DIGITS t_LETTERS t_LONGEST_INTEGER t_LONGEST_NAME t_MOST_NESTED : Tok} {a_ALWAYS a_MARKS a_NEVER a_OPPOSITES a_RESERVED a_SIGNS a_BadName a_BadNumber a_BadSign a_BadText a_Condition a_ElseputError a_Reader a_TooLarge : Addr}
/-! ### leaves and trees, drawn -/
def TsAt (K : PySem.W.Frag) (H : Hp) (xs : List V) (ts : List Tr) : Prop := xs.length = ts.length ∧ ∀ (i : Nat) (t : Tr), ts[i]? = some t → ∃ v : V, xs[i]? = some v ∧ TAt K H t v
theorem TsAt.same {K : PySem.W.Frag} {H H' : Hp} {xs : List V} {ts : List Tr} (h : TsAt K H xs ts) (s : Same H H') : TsAt K H' xs ts := ⟨h.1, fun i t ht => by
  obtain ⟨v, e, q⟩ := h.2 i t ht
  exact ⟨v, e, q.same s⟩⟩
theorem TsAt.bt {K : PySem.W.Frag} {H H' : Hp} {st : Addr} {xs : List V} {ts : List Tr} (h : TsAt K H xs ts) (hs : ∃ l, H st = some (.lst l)) (s : Bt st H H') : TsAt K H' xs ts := ⟨h.1, fun i t ht => by
  obtain ⟨v, e, q⟩ := h.2 i t ht
  exact ⟨v, e, q.bt (NT.lst hs) s⟩⟩
theorem TsAt.app {K : PySem.W.Frag} {H : Hp} {xs ys : List V} {ts us : List Tr} (h : TsAt K H xs ts) (k : TsAt K H ys us) : TsAt K H (xs ++ ys) (ts ++ us) := ⟨by rw [List.length_append, List.length_append, h.1, k.1], fun i c hc => by
  by_cases e : i < ts.length
  · rw [List.getElem?_append_left e] at hc
    rw [List.getElem?_append_left (by rw [h.1]; exact e)]
    exact h.2 i c hc
  · rw [List.getElem?_append_right (by omega)] at hc
    rw [List.getElem?_append_right (by rw [h.1]; omega), h.1]
    exact k.2 _ c hc⟩
theorem TsAt.take {K : PySem.W.Frag} {H : Hp} {xs : List V} {ts : List Tr} (h : TsAt K H xs ts) (k : Nat) : TsAt K H (xs.take k) (ts.take k) := ⟨by rw [List.length_take, List.length_take, h.1], fun i t ht => by
  rw [List.getElem?_take] at ht ⊢
  split at ht
  · rename_i hk
    rw [if_pos hk]
    exact h.2 i t ht
  · cases ht⟩
theorem TsAt.drop {K : PySem.W.Frag} {H : Hp} {xs : List V} {ts : List Tr} (h : TsAt K H xs ts) (k : Nat) : TsAt K H (xs.drop k) (ts.drop k) := ⟨by rw [List.length_drop, List.length_drop, h.1], fun i t ht => by
  rw [List.getElem?_drop] at ht ⊢
  exact h.2 _ t ht⟩
theorem TsAt.one {K : PySem.W.Frag} {H : Hp} {x : V} {t : Tr} (h : TAt K H t x) : TsAt K H [x] [t] := ⟨rfl, fun i u hu => by
  match i, hu with
  | 0, hu => cases hu; exact ⟨x, rfl, h⟩⟩
/-- grown trees -/
def Gr (ts : List Tr) : Prop := ∀ t ∈ ts, t.pure ∧ t.ok
def tot (ts : List Tr) : Nat := (ts.map fun t => t.cs.length).sum
end
section
variable {P : Program} {w : World} {K : PySem.W.Frag} {mg : Str → Option Value} {base : Heap}
variable {t_BOUND t_DIGITS t_LETTERS t_LONGEST_INTEGER t_LONGEST_NAME t_MOST_NESTED : Tok} {a_ALWAYS a_MARKS a_NEVER a_OPPOSITES a_RESERVED a_SIGNS a_BadName a_BadNumber a_BadSign a_BadText a_Condition a_ElseputError a_Reader a_TooLarge : Addr}
def sp__law_leaves (K : PySem.W.Frag) : Sp := fun vs H Q _ => ∃ (st scr p : Addr) (zs : List Str) (n : Nat), vs = [.ref st, .ref p, .int n] ∧ DrAt H st scr ∧ H p = some (.lst (zs.map V.str)) ∧ p ≠ st ∧ 0 < zs.length ∧ zs.length ≤ 26 ∧ (∀ z ∈ zs, isName z = true) ∧ n ≤ 26 ∧
  ∀ (H' : Hp) (D : Addr) (xs : List V) (ts : List Tr), Bt st H H' → DrAt H' st scr → H D = none → H' D = some (.lst xs) → TsAt K H' xs ts → Gr ts → (∀ t ∈ ts, t.cs.length = 1) → ts.length = n → Q (.ref D) H'
theorem len__law_leaves {vs : List V} {H : Hp} {Q : VK} {E : XK} (h : sp__law_leaves K vs H Q E) : vs.length = 3 := by
  obtain ⟨_, _, _, _, _, rfl, _⟩ := h
  rfl
theorem ok__law_leaves {f : Addr} {fd : FuncData} {f__law_pick : Addr} {fd__law_pick : FuncData} {f__law_constant : Addr} {fd__law_constant : FuncData} (F : Fun K "_law_leaves" "_law_leaves" s__law_leaves f fd) (T : Gs K mg t_BOUND t_DIGITS t_LETTERS t_LONGEST_INTEGER t_LONGEST_NAME t_MOST_NESTED a_ALWAYS a_MARKS a_NEVER a_OPPOSITES a_RESERVED a_SIGNS a_BadName a_BadNumber a_BadSign a_BadText a_Condition a_ElseputError a_Reader a_TooLarge) (c__law_pick : Cal P w K mg base CX0 2 "_law_pick" f__law_pick fd__law_pick ["_law_state_here", "_law_row"] (sp__law_pick K)) (c__law_constant : Cal P w K mg base CX0 3 "_law_constant" f__law_constant fd__law_constant ["_law_state_here"] (sp__law_constant K)) : FnOk P w K mg base CX0 4 f fd ["_law_state_here", "_law_fields", "_law_many"] (sp__law_leaves K) := by
  refine F.ok sc__law_leaves (fun vs H Q E h => len__law_leaves h) (fun cdv A outer s H vs Q E hr h => ?_)
  obtain ⟨st, scr, p, zs, n, rfl, hd, hp, ps, z0, z26, zn, n26, q⟩ := h
  refine ⟨_, (pss_cons (ps_set (i := 3) sc__law_leaves.nd rfl (.inl rfl) (pe_lst pa_nil)) (pss_cons (ps_for PassesOwn.never rfl (pi_range1 rfl T.z_range (pa_cons (v_ 2) pa_nil)) (pg_name (i := 4) sc__law_leaves.nd rfl (.inl rfl)) (pss_cons (ps_set (i := 5) sc__law_leaves.nd rfl (.inl rfl) (pe_call c__law_pick.G (hr.mono (by first | decide | omega)) rfl c__law_pick.m c__law_pick.kp c__law_pick.b .nil pass0 (pa_cons (v_ 0) (pa_cons (pe_lst (pa_cons pe_str (pa_cons pe_str (pa_cons pe_str (pa_cons pe_str (pa_cons pe_str (pa_cons pe_str pa_nil))))))) pa_nil)))) (pss_one (ps_expr (pe_bm PySem.F.plainAttrs_list PySem.F.slot_list_append PySem.F.type_list_append mt_append (v_ 3) (pa_cons (pe_tup (pa_cons pe_str (pa_cons (pe_call c__law_pick.G (hr.mono (by first | decide | omega)) rfl c__law_pick.m c__law_pick.kp c__law_pick.b .nil pass0 (pa_cons (v_ 0) (pa_cons (v_ 1) pa_nil))) (pa_cons (v_ 5) (pa_cons (pe_call c__law_constant.G (hr.mono (by first | decide | omega)) rfl c__law_constant.m c__law_constant.kp c__law_constant.b .nil pass0 (pa_cons (v_ 0) pa_nil)) pa_nil))))) pa_nil)))))) (pss_one (ps_ret (v_ 3))))), ?_⟩
  refine ⟨Nat.zero_le _, fun D nD => ?_⟩
  have Ds : D ≠ st := hd.ne_new nD
  have Dc : D ≠ scr := hd.ne_scr nD
  have pD : p ≠ D := ne_of_none hp nD
  refine ⟨n, rfl, by omega, by omega, ?_⟩
  refine for_range (lo := 0) (n := n) (fun i σ' H' => ∃ (x y : Option V) (xs : List V) (ts : List Tr), σ' = [some (.ref st), some (.ref p), some (.int n), some (.ref D), x, y] ∧ Bt st H H' ∧ DrAt H' st scr ∧ H' D = some (.lst xs) ∧ TsAt K H' xs ts ∧ Gr ts ∧ (∀ t ∈ ts, t.cs.length = 1) ∧ ts.length = i) ⟨_, _, [], [], rfl, Bt.same (same_new nD), hd.new (same_new nD), upd_same, ⟨rfl, fun i t h => nomatch h⟩, (fun _ h => nomatch h), (fun _ h => nomatch h), rfl⟩ ?_ ?_
  · rintro i σ' H1 hi ⟨x, y, xs, ts, rfl, b1, hd1, hD, hts, hg, h1, hl⟩
    refine ⟨(by show 6 ≤ sizeLine; decide), fun W nW => ?_⟩
    have sW := same_new (o := .lst (signs.map V.str)) nW
    have hW := upd_same (H := H1) (a := W) (o := .lst (signs.map V.str))
    have b2 := b1.trans (Bt.same (st := st) sW)
    have hd2 := hd1.new sW
    have hD2 := sW _ _ hD
    have hts2 := hts.same sW
    have Ws : W ≠ st := hd1.ne_new nW
    refine ⟨st, scr, _, rfl, hd2, .inr ⟨W, _, rfl, hW, Ws, (by show 0 < 6; decide), (by show 6 ≤ 1000; decide), fun v l hv hd3 => ?_⟩⟩
    obtain ⟨s, hs, rfl⟩ := List.mem_map.mp hv
    have b3 := b2.trans (Bt.st (st := st) (o := .lst l))
    have hD3 : (upd (upd H1 W (.lst (signs.map V.str))) st (.lst l)) D = some (.lst xs) := by rw [upd_ne Ds]; exact hD2
    have hts3 := hts2.bt hd2.lst (Bt.st (o := .lst l))
    generalize hH3 : upd (upd H1 W _) st _ = H3 at hd3 ⊢
    replace b3 : Bt st H H3 := by rw [← hH3]; exact b3
    replace hD3 : H3 D = some (.lst xs) := by rw [← hH3]; exact hD3
    replace hts3 : TsAt K H3 xs ts := by rw [← hH3]; exact hts3
    clear hH3 hW hD2 hts2 b2 hd2
    refine ⟨.inl ⟨rfl, _, SqL.of hD3⟩, ?_⟩
    refine ⟨st, scr, _, rfl, hd3, .inr ⟨p, _, rfl, b3 _ _ ps hp, ps, by rw [List.length_map]; exact z0, by rw [List.length_map]; omega, fun v2 l2 hv2 hd4 => ?_⟩⟩
    obtain ⟨z, hz, rfl⟩ := List.mem_map.mp hv2
    have b4 := b3.trans (Bt.st (st := st) (o := .lst l2))
    have hD4 : (upd H3 st (.lst l2)) D = some (.lst xs) := by rw [upd_ne Ds]; exact hD3
    have hts4 := hts3.bt hd3.lst (Bt.st (o := .lst l2))
    generalize upd H3 st (.lst l2) = H4 at b4 hD4 hts4 hd4 ⊢
    refine ⟨st, scr, rfl, hd4, fun l3 m hm hd5 => ?_⟩
    have b5 := b4.trans (Bt.st (st := st) (o := .lst l3))
    have hD5 : (upd H4 st (.lst l3)) D = some (.lst xs) := by rw [upd_ne Ds]; exact hD4
    have hts5 := hts4.bt hd4.lst (Bt.st (o := .lst l3))
    generalize upd H4 st (.lst l3) = H5 at b5 hD5 hts5 hd5 ⊢
    refine ⟨(by show 4 ≤ sizeLine; decide), fun u nu => ?_⟩
    have su := same_new (o := .tup [.str "compare", .str z, .str s, .int m]) nu
    have hu := upd_same (H := H5) (a := u) (o := .tup [.str "compare", .str z, .str s, .int m])
    have b6 := b5.trans (Bt.same (st := st) su)
    have hd6 := hd5.new su
    have hD6 := su _ _ hD5
    have hts6 := hts5.same su
    generalize upd H5 u (.tup [.str "compare", .str z, .str s, .int m]) = H6 at su hu b6 hd6 hD6 hts6 ⊢
    refine ⟨D, xs, .ref u, rfl, rfl, hD6, line_lt (by rw [hts6.1]; omega), ?_⟩
    have hn : NT H6 D := NT.lst ⟨_, hD6⟩
    have uD : u ≠ D := ne_of hu hD6 (by intro e; cases e)
    have tt : TAt K (upd H6 D (.lst (xs ++ [.ref u]))) (.cmp z s m) (.ref u) := ⟨u, rfl, SqT.of (by rw [upd_ne uD]; exact hu)⟩
    refine ⟨_, _, xs ++ [.ref u], ts ++ [.cmp z s m], rfl, fun c o nc hc => ?_, hd6.at Ds Dc, upd_same, TsAt.app (hts6.bt ⟨_, hD6⟩ Bt.st) (TsAt.one tt), fun t ht => ?_, fun t ht => ?_, by rw [List.length_append, hl]; rfl⟩
    · rw [upd_ne (ne_of_none hc nD)]
      exact b6 c o nc hc
    · rcases List.mem_append.mp ht with h | h
      · exact hg t h
      · rw [List.mem_singleton.mp h]
        refine ⟨True.intro, fun c hc => ?_⟩
        rw [List.mem_singleton.mp hc]
        exact ⟨zn z hz, hs, hm⟩
    · rcases List.mem_append.mp ht with h | h
      · exact h1 t h
      · rw [List.mem_singleton.mp h]
        rfl
  · rintro σ' H1 ⟨x, y, xs, ts, rfl, b1, hd1, hD, hts, hg, h1, hl⟩
    exact q H1 D xs ts b1 hd1 nD hD hts hg h1 hl
end
section
variable {P : Program} {w : World} {K : PySem.W.Frag} {mg : Str → Option Value} {base : Heap}
variable {t_BOUND t_DIGITS t_LETTERS t_LONGEST_INTEGER t_LONGEST_NAME t_MOST_NESTED : Tok} {a_ALWAYS a_MARKS a_NEVER a_OPPOSITES a_RESERVED a_SIGNS a_BadName a_BadNumber a_BadSign a_BadText a_Condition a_ElseputError a_Reader a_TooLarge : Addr}
abbrev lsg : List Str := ["<", ">=", "<=", ">", "==", "!="]
abbrev trn : List Str := [">=", "<", ">", "<=", "!=", "=="]
theorem turn_at : ∀ s ∈ signs, ∃ j : Fin 6, lsg[j.val]? = some s ∧ (∀ m : Fin 6, m.val < j.val → lsg[m.val]? ≠ some s) ∧ trn[j.val]? = some (oppS s) := by decide +kernel
def spOpl (n : Nat) : PySem.W.Frag → Sp := fun K vs H Q _ => ∃ (v : V) (t : Tr), vs = [v] ∧ TAt K H t v ∧ t.depth < n ∧ t.ok ∧ ∀ (H' : Hp) (u : V), Same H H' → TAt K H' (oppT t) u → Q u H'
theorem len_opl {n : Nat} {vs : List V} {H : Hp} {Q : VK} {E : XK} (h : spOpl n K vs H Q E) : vs.length = 1 := by
  obtain ⟨_, _, rfl, _⟩ := h
  rfl
theorem opl_step {n k : Nat} {f : Addr} {fd : FuncData} (F : Fun K "_law_opposite" "_law_opposite" s__law_opposite f fd) (T : Gs K mg t_BOUND t_DIGITS t_LETTERS t_LONGEST_INTEGER t_LONGEST_NAME t_MOST_NESTED a_ALWAYS a_MARKS a_NEVER a_OPPOSITES a_RESERVED a_SIGNS a_BadName a_BadNumber a_BadSign a_BadText a_Condition a_ElseputError a_Reader a_TooLarge)
    (c__law_opposite : Cal P w K mg base CX0 k "_law_opposite" f fd ["_law_tree"] (spOpl n K)) (hk : 1 ≤ k) : FnOk P w K mg base CX0 (k + 1) f fd ["_law_tree"] (spOpl (n + 1) K) := by
  refine F.ok sc__law_opposite (fun vs H Q E h => len_opl h) (fun cdv A outer s H vs Q E hr h => ?_)
  obtain ⟨v, t, rfl, ht, hd, hok, q⟩ := h
  refine ⟨_, (pss_cons (ps_if (pt_c (eqK K hr.units) (e_x K (v_ 0) pe_int) pe_str) (pss_one (ps_ret (pe_tup (pa_cons pe_str pa_nil)))) pss_nil) (pss_cons (ps_if (pt_c (eqK K hr.units) (e_x K (v_ 0) pe_int) pe_str) (pss_one (ps_ret (pe_tup (pa_cons pe_str pa_nil)))) pss_nil) (pss_cons (ps_if (pt_c (eqK K hr.units) (e_x K (v_ 0) pe_int) pe_str) (pss_cons (ps_set (i := 2) sc__law_opposite.nd rfl (.inl rfl) (pe_lst (pa_cons pe_str (pa_cons pe_str (pa_cons pe_str (pa_cons pe_str (pa_cons pe_str (pa_cons pe_str pa_nil)))))))) (pss_cons (ps_set (i := 3) sc__law_opposite.nd rfl (.inl rfl) (pe_lst (pa_cons pe_str (pa_cons pe_str (pa_cons pe_str (pa_cons pe_str (pa_cons pe_str (pa_cons pe_str pa_nil)))))))) (pss_one (ps_ret (pe_tup (pa_cons pe_str (pa_cons (e_x K (v_ 0) pe_int) (pa_cons (e_x K (v_ 3) (pe_bm PySem.F.plainAttrs_list PySem.F.slot_list_index PySem.F.type_list_index (mindexK K) (v_ 2) (pa_cons (e_x K (v_ 0) pe_int) pa_nil))) (pa_cons (e_x K (v_ 0) pe_int) pa_nil))))))))) pss_nil) (pss_cons (ps_set (i := 1) sc__law_opposite.nd rfl (.inl rfl) pe_str) (Evl.pss_cut (ps_if (pt_c (eqK K hr.units) (e_x K (v_ 0) pe_int) pe_str) (pss_one (ps_set (i := 1) sc__law_opposite.nd rfl (.inl rfl) pe_str)) pss_nil) (pss_one (ps_ret (pe_tup (pa_cons (v_ 1) (pa_cons (pe_call c__law_opposite.G (hr.mono (by first | decide | omega)) rfl c__law_opposite.m c__law_opposite.kp c__law_opposite.b .nil pass0 (pa_cons (e_x K (v_ 0) pe_int) pa_nil)) (pa_cons (pe_call c__law_opposite.G (hr.mono (by first | decide | omega)) rfl c__law_opposite.m c__law_opposite.kp c__law_opposite.b .nil pass0 (pa_cons (e_x K (v_ 0) pe_int) pa_nil)) pa_nil))))))))))), ?_⟩
  cases t with
  | tt =>
    obtain ⟨a, rfl, ha⟩ := ht
    refine ⟨_, .inr ha, .str "always", rfl, (by show 1 ≤ sizeLine; decide), fun u nu => ?_⟩
    exact q _ _ (same_new nu) ⟨u, rfl, SqT.of upd_same⟩
  | ff =>
    obtain ⟨a, rfl, ha⟩ := ht
    refine ⟨_, .inr ha, .str "never", rfl, _, .inr ha, .str "never", rfl, (by show 1 ≤ sizeLine; decide), fun u nu => ?_⟩
    exact q _ _ (same_new nu) ⟨u, rfl, SqT.of upd_same⟩
  | cmp g s m =>
    obtain ⟨a, rfl, ha⟩ := ht
    obtain ⟨_, hs, _⟩ := hok (g, s, m) (List.mem_singleton.mpr rfl)
    have hs : s ∈ signs := hs
    obtain ⟨⟨j, hj⟩, j1, j2, j3⟩ := turn_at s hs
    have j1 : lsg[j]? = some s := j1
    have j3 : trn[j]? = some (oppS s) := j3
    refine ⟨_, .inr ha, .str "compare", rfl, _, .inr ha, .str "compare", rfl, _, .inr ha, .str "compare", rfl, ?_⟩
    refine ⟨(by show 6 ≤ sizeLine; decide), fun S nS => ?_⟩
    have sS := same_new (o := .lst (lsg.map V.str)) nS
    have hS := upd_same (H := H) (a := S) (o := .lst (lsg.map V.str))
    generalize hH1 : upd H S _ = H1
    replace sS : Same H H1 := by rw [← hH1]; exact sS
    replace hS : H1 S = some (.lst (lsg.map V.str)) := by rw [← hH1]; exact hS
    clear hH1
    refine ⟨(by show 6 ≤ sizeLine; decide), fun N nN => ?_⟩
    generalize hH2 : upd H1 N _ = H2
    have sN : Same H1 H2 := by rw [← hH2]; exact same_new nN
    have hN : H2 N = some (.lst (trn.map V.str)) := by rw [← hH2]; exact upd_same
    clear hH2
    have hS2 := sN _ _ hS
    have sm := sS.trans sN
    have ha2 := SqT.same ha sm
    have i1 : atI [V.str "compare", .str g, .str s, .int m] (1 : Int) = some (.str g) := rfl
    have i2 : atI [V.str "compare", .str g, .str s, .int m] (2 : Int) = some (.str s) := rfl
    have i3 : atI [V.str "compare", .str g, .str s, .int m] (3 : Int) = some (.int m) := rfl
    have en : atI (trn.map V.str) (j : Int) = some (.str (oppS s)) := atI_nat (by rw [List.getElem?_map, j3]; rfl)
    refine ⟨_, .inr ha2, .str g, i1, .inl ⟨rfl, _, SqL.of hS2⟩, _, .inr ha2, .str s, i2, S, _, .str s, j, .str s, rfl, rfl, SqL.of hS2, rfl, flat_strs, by rw [List.getElem?_map, j1]; rfl, ?_, fun m' z' hm' hz' => ?_, _, .inl (SqL.of hN), .str (oppS s), en, _, .inr ha2, .int m, i3, (by show 4 ≤ sizeLine; decide), fun u nu => ?_⟩
    · show (s == s) = true
      exact beq_self_eq_true s
    · rw [List.getElem?_map] at hz'
      obtain ⟨z, ez, rfl⟩ := Option.map_eq_some_iff.mp hz'
      show (z == s) = false
      rw [beq_eq_false_iff_ne]
      intro e
      exact j2 ⟨m', by omega⟩ hm' (e ▸ ez)
    · exact q _ _ (sm.trans (same_new nu)) ⟨u, rfl, SqT.of upd_same⟩
  | con b l r =>
    obtain ⟨a, x, y, rfl, ha, hx, hy⟩ := ht
    have i1 : atI [V.str (wd b), x, y] (1 : Int) = some x := rfl
    have i2 : atI [V.str (wd b), x, y] (2 : Int) = some y := rfl
    have dd : max l.depth r.depth + 1 < n + 1 := hd
    cases b with
    | true =>
      refine ⟨_, .inr ha, .str "and", rfl, _, .inr ha, .str "and", rfl, _, .inr ha, .str "and", rfl, ?_⟩
      refine ⟨fun σ' H' => σ' = [some (.ref a), some (.str "or"), none, none] ∧ H' = H, ?_, ?_⟩
      · exact ⟨_, .inr ha, .str "and", rfl, rfl, rfl⟩
      rintro σ' H' ⟨rfl, rfl⟩
      refine ⟨_, .inr ha, x, i1, x, l, rfl, hx, by omega, hok.l, fun H1 x' s1 hx' => ?_⟩
      refine ⟨_, .inr (SqT.same ha s1), y, i2, y, r, rfl, hy.same s1, by omega, hok.r, fun H2 y' s2 hy' => ?_⟩
      refine ⟨(by show 3 ≤ sizeLine; decide), fun u nu => ?_⟩
      have su := same_new (o := .tup [.str "or", x', y']) nu
      exact q _ _ ((s1.trans s2).trans su) ⟨u, x', y', rfl, SqT.of upd_same, (hx'.same s2).same su, hy'.same su⟩
    | false =>
      refine ⟨_, .inr ha, .str "or", rfl, _, .inr ha, .str "or", rfl, _, .inr ha, .str "or", rfl, ?_⟩
      refine ⟨fun σ' H' => σ' = [some (.ref a), some (.str "and"), none, none] ∧ H' = H, ?_, ?_⟩
      · exact ⟨_, .inr ha, .str "or", rfl, rfl, rfl⟩
      rintro σ' H' ⟨rfl, rfl⟩
      refine ⟨_, .inr ha, x, i1, x, l, rfl, hx, by omega, hok.l, fun H1 x' s1 hx' => ?_⟩
      refine ⟨_, .inr (SqT.same ha s1), y, i2, y, r, rfl, hy.same s1, by omega, hok.r, fun H2 y' s2 hy' => ?_⟩
      refine ⟨(by show 3 ≤ sizeLine; decide), fun u nu => ?_⟩
      have su := same_new (o := .tup [.str "and", x', y']) nu
      exact q _ _ ((s1.trans s2).trans su) ⟨u, x', y', rfl, SqT.of upd_same, (hx'.same s2).same su, hy'.same su⟩
theorem opl_all {f : Addr} {fd : FuncData} (F : Fun K "_law_opposite" "_law_opposite" s__law_opposite f fd) (T : Gs K mg t_BOUND t_DIGITS t_LETTERS t_LONGEST_INTEGER t_LONGEST_NAME t_MOST_NESTED a_ALWAYS a_MARKS a_NEVER a_OPPOSITES a_RESERVED a_SIGNS a_BadName a_BadNumber a_BadSign a_BadText a_Condition a_ElseputError a_Reader a_TooLarge)
    (b : Binds K fd ["_law_tree"] []) (kp : PySem.W.keepIn K (.ref f) = true) (m : mg "_law_opposite" = some (.ref f)) : ∀ n : Nat, FnOk P w K mg base CX0 (n + 2) f fd ["_law_tree"] (spOpl n K)
  | 0 => ⟨fun _ _ _ _ h => len_opl h, by
    intro A outer s H args us vs Q E _ _ _ _ h
    obtain ⟨_, _, _, _, h, _⟩ := h
    exact absurd h (Nat.not_lt_zero _)⟩
  | n + 1 => opl_step F T ⟨opl_all F T b kp m n, b, kp, m⟩ (by omega)
def sp__law_opposite : PySem.W.Frag → Sp := spOpl 20
theorem ok__law_opposite {f : Addr} {fd : FuncData} (F : Fun K "_law_opposite" "_law_opposite" s__law_opposite f fd) (T : Gs K mg t_BOUND t_DIGITS t_LETTERS t_LONGEST_INTEGER t_LONGEST_NAME t_MOST_NESTED a_ALWAYS a_MARKS a_NEVER a_OPPOSITES a_RESERVED a_SIGNS a_BadName a_BadNumber a_BadSign a_BadText a_Condition a_ElseputError a_Reader a_TooLarge) (b : Binds K fd ["_law_tree"] []) (kp : PySem.W.keepIn K (.ref f) = true) (m : mg "_law_opposite" = some (.ref f)) :
    FnOk P w K mg base CX0 22 f fd ["_law_tree"] (sp__law_opposite K) := opl_all F T b kp m 20
end
section
variable {P : Program} {w : World} {K : PySem.W.Frag} {mg : Str → Option Value} {base : Heap}
variable {t_BOUND t_DIGITS t_LETTERS t_LONGEST_INTEGER t_LONGEST_NAME t_MOST_NESTED : Tok} {a_ALWAYS a_MARKS a_NEVER a_OPPOSITES a_RESERVED a_SIGNS a_BadName a_BadNumber a_BadSign a_BadText a_Condition a_ElseputError a_Reader a_TooLarge : Addr}
/-! ### chains by the law -/
def CAt (K : PySem.W.Frag) (H : Hp) (xs : List V) (c : Nat → Cm) (n : Nat) : Prop := xs.length = n ∧ ∀ k, k < n → ∃ a : Addr, xs[k]? = some (.ref a) ∧ SqT K H a [.str "compare", .str (c k).1, .str (c k).2.1, .int (c k).2.2]
theorem CAt.same {K : PySem.W.Frag} {H H' : Hp} {xs : List V} {c : Nat → Cm} {n : Nat} (h : CAt K H xs c n) (s : Same H H') : CAt K H' xs c n := ⟨h.1, fun k hk => by
  obtain ⟨a, e, q⟩ := h.2 k hk
  exact ⟨a, e, SqT.same q s⟩⟩
def JAt (ys : List V) (j : Nat → Bool) (n : Nat) : Prop := ∀ k, k + 1 < n → ys[k]? = some (.str (wd (j k)))
theorem cw_cp {c : Nat → Cm} {j : Nat → Bool} {i : Nat} (h : 0 < i) : cw c j i ++ [wd (j (i - 1))] = cp c j i := by
  cases i with
  | zero => omega
  | succ i =>
    show cp c j i ++ w3 (c i) ++ [wd (j i)] = cp c j i ++ (w3 (c i) ++ [wd (j i)])
    rw [List.append_assoc]
def sp__law_chain (K : PySem.W.Frag) : Sp := fun vs H Q _ => ∃ (p jl : Addr) (xs ys : List V) (c : Nat → Cm) (j : Nat → Bool) (n : Nat), vs = [.ref p, .ref jl] ∧ H p = some (.lst xs) ∧ H jl = some (.lst ys) ∧ CAt K H xs c n ∧ JAt ys j n ∧ n ≤ 20 ∧ COk c ∧
  ∀ (H' : Hp) (L : Addr), Same H H' → H L = none → H' L = some (.lst ((cw c j n).map V.str)) → Q (.ref L) H'
theorem len__law_chain {vs : List V} {H : Hp} {Q : VK} {E : XK} (h : sp__law_chain K vs H Q E) : vs.length = 2 := by
  obtain ⟨_, _, _, _, _, _, _, rfl, _⟩ := h
  rfl
theorem ok__law_chain {f : Addr} {fd : FuncData} (F : Fun K "_law_chain" "_law_chain" s__law_chain f fd) (T : Gs K mg t_BOUND t_DIGITS t_LETTERS t_LONGEST_INTEGER t_LONGEST_NAME t_MOST_NESTED a_ALWAYS a_MARKS a_NEVER a_OPPOSITES a_RESERVED a_SIGNS a_BadName a_BadNumber a_BadSign a_BadText a_Condition a_ElseputError a_Reader a_TooLarge) : FnOk P w K mg base CX0 1 f fd ["_law_comps", "_law_joiners"] (sp__law_chain K) := by
  refine F.ok sc__law_chain (fun vs H Q E h => len__law_chain h) (fun cdv A outer s H vs Q E hr h => ?_)
  obtain ⟨p, jl, xs, ys, c, j, n, rfl, hp, hj, hx, hy, hn, hc, q⟩ := h
  refine ⟨_, (pss_cons (ps_set (i := 2) sc__law_chain.nd rfl (.inl rfl) (pe_lst pa_nil)) (pss_cons (ps_for PassesOwn.never rfl (pi_range1 rfl T.z_range (pa_cons (pe_callB (lenK K) (by rfl) T.z_len PySem.boot_len (pa_cons (v_ 0) pa_nil)) pa_nil)) (pg_name (i := 3) sc__law_chain.nd rfl (.inl rfl)) (Evl.pss_cut (ps_if (pt_c op_gtM (v_ 3) pe_int) (pss_one (ps_expr (pe_bm PySem.F.plainAttrs_list PySem.F.slot_list_append PySem.F.type_list_append mt_append (v_ 2) (pa_cons (e_x K (v_ 1) (pe_op op_subM (v_ 3) pe_int)) pa_nil)))) pss_nil) (pss_one (ps_set (i := 2) sc__law_chain.nd rfl (.inl rfl) (pe_op (addK K) (v_ 2) (pe_lst (pa_cons (e_x K (e_x K (v_ 0) (v_ 3)) pe_int) (pa_cons (e_x K (e_x K (v_ 0) (v_ 3)) pe_int) (pa_cons (pe_callTy call_str_int (by rfl) T.z_str (by decide +kernel) (pa_cons (e_x K (e_x K (v_ 0) (v_ 3)) pe_int) pa_nil)) pa_nil))))))))) (pss_one (ps_ret (v_ 2))))), ?_⟩
  refine ⟨Nat.zero_le _, fun W nW => ?_⟩
  refine .inl ⟨_, .inl (SqL.of (same_new nW _ _ hp)), ?_⟩
  rw [hx.1]
  refine ⟨_, rfl, by omega, by omega, ?_⟩
  refine for_range (lo := 0) (n := n) (fun i σ' H' => ∃ (W : Addr) (y : Option V), σ' = [some (.ref p), some (.ref jl), some (.ref W), y] ∧ Same H H' ∧ H W = none ∧ H' W = some (.lst ((cw c j i).map V.str))) ⟨W, _, rfl, same_new nW, nW, upd_same⟩ ?_ ?_
  · rintro i σ' H' hi ⟨W, y, rfl, s, nW, hW⟩
    have lw : (cw c j i).length ≤ 4 * i := cw_ln i
    refine ⟨fun σ' H' => σ' = [some (.ref p), some (.ref jl), some (.ref W), some (.int (0 + i))] ∧ Same H H' ∧ H' W = some (.lst ((cp c j i).map V.str)), ?_, ?_⟩
    · refine ite2 (fun e => ?_) (fun e => ?_)
      · have e : (0 : Int) < 0 + i := of_decide_eq_true e
        have i0 : 0 < i := by omega
        have ej : atI ys (0 + (i : Int) - 1) = some (.str (wd (j (i - 1)))) := by
          rw [show (0 : Int) + i - 1 = ((i - 1 : Nat) : Int) by omega]
          exact atI_nat (hy (i - 1) (by omega))
        refine ⟨.inl ⟨rfl, _, SqL.of hW⟩, _, .inl (SqL.of (s _ _ hj)), .str (wd (j (i - 1))), ej, W, _, _, rfl, rfl, hW, line_lt (by rw [List.length_map]; omega), ?_⟩
        refine ⟨rfl, fun b o hb => ?_, ?_⟩
        · rw [upd_ne (ne_of_none hb nW)]
          exact s _ _ hb
        · rw [upd_same, ← cw_cp i0, List.map_append]
          rfl
      · have e : ¬ (0 : Int) < 0 + i := of_decide_eq_false (Bool.eq_false_iff.mpr e)
        obtain rfl : i = 0 := by omega
        exact ⟨rfl, s, hW⟩
    · rintro σ' H2 ⟨rfl, s2, hW2⟩
      obtain ⟨a, ea, ha⟩ := hx.2 i hi
      have ha2 := SqT.same ha s2
      have i2 : atI [V.str "compare", .str (c i).1, .str (c i).2.1, .int (c i).2.2] (2 : Int) = some (.str (c i).2.1) := rfl
      have i3 : atI [V.str "compare", .str (c i).1, .str (c i).2.1, .int (c i).2.2] (3 : Int) = some (.int (c i).2.2) := rfl
      have e0 : atI xs (0 + (i : Int)) = some (.ref a) := by rw [Int.zero_add]; exact atI_nat ea
      have hp2 := s2 _ _ hp
      refine ⟨_, .inl (SqL.of hp2), .ref a, e0, _, .inr ha2, .str (c i).1, rfl, _, .inl (SqL.of hp2), .ref a, e0, _, .inr ha2, .str (c i).2.1, i2, _, .inl (SqL.of hp2), .ref a, e0, _, .inr ha2, .int (c i).2.2, i3, (c i).2.2, rfl, log_200 (bd_small (hc i).2.2), (by show 3 ≤ sizeLine; decide), fun A nA => ?_⟩
      have sA := same_new (o := .lst ((w3 (c i)).map V.str)) nA
      refine .inl ⟨_, _, sA _ _ hW2, upd_same, line_of (by rw [List.length_map, cp_len]; show 4 * i + 3 ≤ _; omega), fun B nB => ?_⟩
      refine ⟨B, _, rfl, (s2.trans sA).trans (same_new nB), Same.free (s2.trans sA) nB, ?_⟩
      rw [upd_same]
      show _ = some (HO.lst ((cp c j i ++ w3 (c i)).map V.str))
      rw [List.map_append]
      rfl
  · rintro σ' H' ⟨W, y, rfl, s, nW, hW⟩
    exact q H' W s nW hW
end
section
variable {P : Program} {w : World} {K : PySem.W.Frag} {mg : Str → Option Value} {base : Heap}
variable {t_BOUND t_DIGITS t_LETTERS t_LONGEST_INTEGER t_LONGEST_NAME t_MOST_NESTED : Tok} {a_ALWAYS a_MARKS a_NEVER a_OPPOSITES a_RESERVED a_SIGNS a_BadName a_BadNumber a_BadSign a_BadText a_Condition a_ElseputError a_Reader a_TooLarge : Addr}
theorem ixN_last (n : Nat) : ixN (n + 1) (-1) = some n := by
  unfold ixN
  rw [if_neg (by decide)]
  split
  · congr 1
    omega
  · rename_i h
    exact absurd (by omega) h
theorem TsAt.last {K : PySem.W.Frag} {H : Hp} {ms : List V} {ps : List Tr} {t : Tr} (h : TsAt K H ms (ps ++ [t])) : ∃ m0 v, ms = m0 ++ [v] ∧ TsAt K H m0 ps ∧ TAt K H t v := by
  have hl := h.1
  rw [List.length_append, List.length_singleton] at hl
  have hne : ms ≠ [] := fun e => by rw [e] at hl; cases hl
  have e := (List.dropLast_concat_getLast hne).symm
  have ld : ms.dropLast.length = ps.length := by rw [List.length_dropLast]; omega
  refine ⟨ms.dropLast, ms.getLast hne, e, ?_, ?_⟩
  · have := h.take ps.length
    rw [List.take_left] at this
    conv at this => arg 3; rw [e]
    rw [← ld, List.take_left] at this
    exact this
  · obtain ⟨v, ev, hv⟩ := h.2 ps.length t (by rw [List.getElem?_append_right (Nat.le_refl _), Nat.sub_self]; rfl)
    rw [e, ← ld, List.getElem?_append_right (Nat.le_refl _), Nat.sub_self] at ev
    cases ev
    exact hv
theorem pts_len (c : Nat → Cm) (j : Nat → Bool) : ∀ i, (pts c j i).1.length ≤ i
  | 0 => Nat.le_refl _
  | i + 1 => by
    have := pts_len c j i
    show (if j i = true then _ else _ : List Tr × Tr).1.length ≤ _
    split
    · show (pts c j i).1.length ≤ _
      omega
    · show ((pts c j i).1 ++ [(pts c j i).2]).length ≤ _
      rw [List.length_append, List.length_singleton]
      omega
theorem set_last {a b : V} {m : List V} : (m ++ [a]).set m.length b = m ++ [b] := by
  rw [List.set_append_right _ _ (Nat.le_refl _), Nat.sub_self]
  rfl
def sp__law_chain_due (K : PySem.W.Frag) : Sp := fun vs H Q _ => ∃ (p jl : Addr) (xs ys : List V) (c : Nat → Cm) (j : Nat → Bool) (k : Nat), vs = [.ref p, .ref jl] ∧ H p = some (.lst xs) ∧ H jl = some (.lst ys) ∧ CAt K H xs c (k + 1) ∧ JAt ys j (k + 1) ∧ k ≤ 19 ∧ COk c ∧
  ∀ (H' : Hp) (t : Addr), Same H H' → OutV K H' (if k < 8 then .ok (duT c j k) else .big) t → Q (.ref t) H'
theorem len__law_chain_due {vs : List V} {H : Hp} {Q : VK} {E : XK} (h : sp__law_chain_due K vs H Q E) : vs.length = 2 := by
  obtain ⟨_, _, _, _, _, _, _, rfl, _⟩ := h
  rfl
theorem ok__law_chain_due {f : Addr} {fd : FuncData} (F : Fun K "_law_chain_due" "_law_chain_due" s__law_chain_due f fd) (T : Gs K mg t_BOUND t_DIGITS t_LETTERS t_LONGEST_INTEGER t_LONGEST_NAME t_MOST_NESTED a_ALWAYS a_MARKS a_NEVER a_OPPOSITES a_RESERVED a_SIGNS a_BadName a_BadNumber a_BadSign a_BadText a_Condition a_ElseputError a_Reader a_TooLarge) : FnOk P w K mg base CX0 1 f fd ["_law_comps", "_law_joiners"] (sp__law_chain_due K) := by
  refine F.ok sc__law_chain_due (fun vs H Q E h => len__law_chain_due h) (fun cdv A outer s H vs Q E hr h => ?_)
  obtain ⟨p, jl, xs, ys, c, j, k, rfl, hp, hj, hx, hy, hk, hc, q⟩ := h
  refine ⟨_, (pss_cons (ps_if (pt_c op_gtM (pe_callB (lenK K) (by rfl) T.z_len PySem.boot_len (pa_cons (v_ 0) pa_nil)) pe_int) (pss_one (ps_ret (pe_tup (pa_cons pe_str (pa_cons pe_int pa_nil))))) pss_nil) (pss_cons (ps_set (i := 2) sc__law_chain_due.nd rfl (.inl rfl) (pe_lst (pa_cons (e_x K (v_ 0) pe_int) pa_nil))) (pss_cons (ps_for PassesOwn.never rfl (pi_range2 rfl T.z_range (pa_cons pe_int (pa_cons (pe_callB (lenK K) (by rfl) T.z_len PySem.boot_len (pa_cons (v_ 0) pa_nil)) pa_nil))) (pg_name (i := 3) sc__law_chain_due.nd rfl (.inl rfl)) (pss_one (ps_if (pt_c (eqK K hr.units) (e_x K (v_ 1) (pe_op op_subM (v_ 3) pe_int)) pe_str) (pss_one (ps_asg (pe_tup (pa_cons pe_str (pa_cons (e_x K (v_ 2) (pe_un un_negM pe_int)) (pa_cons (e_x K (v_ 0) (v_ 3)) pa_nil)))) (pg_sub (v_ 2) (pe_un un_negM pe_int) set_list))) (pss_one (ps_expr (pe_bm PySem.F.plainAttrs_list PySem.F.slot_list_append PySem.F.type_list_append mt_append (v_ 2) (pa_cons (e_x K (v_ 0) (v_ 3)) pa_nil))))))) (pss_cons (ps_set (i := 4) sc__law_chain_due.nd rfl (.inl rfl) (e_x K (v_ 2) pe_int)) (pss_cons (ps_for PassesOwn.never rfl (pi_list (pe_slice (slK K) (v_ 2) (po_some pe_int) po_none)) (pg_name (i := 5) sc__law_chain_due.nd rfl (.inl rfl)) (pss_one (ps_set (i := 4) sc__law_chain_due.nd rfl (.inl rfl) (pe_tup (pa_cons pe_str (pa_cons (v_ 4) (pa_cons (v_ 5) pa_nil))))))) (pss_one (ps_ret (pe_tup (pa_cons pe_str (pa_cons (v_ 4) pa_nil)))))))))), ?_⟩
  refine .inl ⟨_, .inl (SqL.of hp), ?_⟩
  rw [hx.1]
  refine ite2 (fun e => ?_) (fun e => ?_)
  · have e : (8 : Int) < ((k + 1 : Nat) : Int) := of_decide_eq_true e
    refine ⟨(by show 2 ≤ sizeLine; decide), fun t nt => ?_⟩
    rw [if_neg (by omega)] at q
    exact q _ t (same_new nt) upd_same
  have e : ¬ (8 : Int) < ((k + 1 : Nat) : Int) := of_decide_eq_false (Bool.eq_false_iff.mpr e)
  have k8 : k < 8 := by omega
  rw [if_pos k8] at q
  obtain ⟨a0, e0, h0⟩ := hx.2 0 (by omega)
  refine ⟨_, .inl (SqL.of hp), .ref a0, atI_nat (j := 0) e0, (by show 1 ≤ sizeLine; decide), fun P nP => ?_⟩
  have sP := same_new (o := .lst [V.ref a0]) nP
  refine .inl ⟨_, .inl (SqL.of (sP _ _ hp)), ?_⟩
  rw [hx.1]
  refine ⟨_, _, rfl, ⟨by decide, by decide, by omega, by omega⟩, ?_⟩
  rw [show (((k + 1 : Nat) : Int) - 1).toNat = k by omega]
  refine for_range (lo := 1) (n := k) (fun i σ' H' => ∃ (ms : List V) (y : Option V), σ' = [some (.ref p), some (.ref jl), some (.ref P), y, none, none] ∧ Same H H' ∧ H' P = some (.lst ms) ∧ TsAt K H' ms ((pts c j i).1 ++ [(pts c j i).2])) ⟨_, _, rfl, sP, upd_same, ?_⟩ ?_ ?_
  · exact TsAt.one (t := lf (c 0)) ⟨a0, rfl, SqT.same h0 sP⟩
  · rintro i σ' H' hi ⟨ms, y, rfl, s, hP, hms⟩
    have ej : atI ys (1 + (i : Int) - 1) = some (.str (wd (j i))) := by
      rw [show (1 : Int) + i - 1 = ((i : Nat) : Int) by omega]
      exact atI_nat (hy i (by omega))
    obtain ⟨a, ea, ha⟩ := hx.2 (i + 1) (by omega)
    have e1 : atI xs (1 + (i : Int)) = some (.ref a) := by
      rw [show (1 : Int) + i = ((i + 1 : Nat) : Int) by omega]
      exact atI_nat ea
    refine ⟨_, .inl (SqL.of (s _ _ hj)), .str (wd (j i)), ej, ?_⟩
    refine ite2 (fun e => ?_) (fun e => ?_)
    · have e : j i = true := by
        cases hb : j i with
        | true => rfl
        | false => rw [hb] at e; exact absurd e (by decide +kernel)
      have ep : pts c j (i + 1) = ((pts c j i).1, .con true (pts c j i).2 (lf (c (i + 1)))) := by
        show (if j i = true then _ else _) = _
        rw [if_pos e]
      obtain ⟨m0, v, rfl, hm0, hv⟩ := hms.last
      refine ⟨_, .inl (SqL.of hP), v, atI_last _ _, _, .inl (SqL.of (s _ _ hp)), .ref a, e1, (by show 3 ≤ sizeLine; decide), fun t nt => ?_⟩
      have st := same_new (o := .tup [.str "and", v, .ref a]) nt
      have hP2 := st _ _ hP
      have tP : t ≠ P := (ne_of_none hP nt).symm
      refine ⟨P, _, -1, m0.length, rfl, rfl, hP2, by rw [List.length_append]; exact ixN_last _, ?_⟩
      rw [set_last]
      refine ⟨_, _, rfl, fun b o hb => ?_, upd_same, ?_⟩
      · rw [upd_ne (ne_of_none hb nP)]
        exact st _ _ (s _ _ hb)
      · rw [ep]
        have tn : TAt K (upd H' t (.tup [.str "and", v, .ref a])) (.con true (pts c j i).2 (lf (c (i + 1)))) (.ref t) := ⟨t, v, .ref a, rfl, SqT.of upd_same, hv.same st, ⟨a, rfl, SqT.same (SqT.same ha s) st⟩⟩
        exact ((hm0.same st).bt ⟨_, hP2⟩ Bt.st).app (TsAt.one (tn.bt (NT.lst ⟨_, hP2⟩) Bt.st))
    · have e : j i = false := by
        cases hb : j i with
        | false => rfl
        | true => rw [hb] at e; exact absurd (show decide (wd true = "and") = true by decide +kernel) e
      have ep : pts c j (i + 1) = ((pts c j i).1 ++ [(pts c j i).2], lf (c (i + 1))) := by
        show (if j i = true then _ else _) = _
        rw [if_neg (by rw [e]; decide)]
      have ml := hms.1
      refine ⟨.inl ⟨rfl, _, SqL.of hP⟩, _, .inl (SqL.of (s _ _ hp)), .ref a, e1, P, _, _, rfl, rfl, hP, ?_, ?_⟩
      · refine line_lt ?_
        have := pts_len c j i
        rw [ml, List.length_append, List.length_singleton]
        omega
      refine ⟨_, _, rfl, fun b o hb => ?_, upd_same, ?_⟩
      · rw [upd_ne (ne_of_none hb nP)]
        exact s _ _ hb
      · rw [ep]
        have tn : TAt K H' (lf (c (i + 1))) (.ref a) := ⟨a, rfl, SqT.same ha s⟩
        exact (hms.bt ⟨_, hP⟩ Bt.st).app (TsAt.one (tn.bt (NT.lst ⟨_, hP⟩) Bt.st))
  · rintro σ' H' ⟨ms, y, rfl, s, hP, hms⟩
    obtain ⟨t0, r, er⟩ : ∃ t0 r, (pts c j k).1 ++ [(pts c j k).2] = t0 :: r := by
      cases (pts c j k).1 with
      | nil => exact ⟨_, _, rfl⟩
      | cons a l => exact ⟨_, _, rfl⟩
    have ed : duT c j k = r.foldl (fun t u => .con false t u) t0 := by
      unfold duT
      rw [er]
      rfl
    rw [er] at hms
    obtain ⟨v0, ev0, hv0⟩ := hms.2 0 t0 rfl
    refine ⟨_, .inl (SqL.of hP), v0, atI_nat (j := 0) ev0, ?_⟩
    refine ⟨_, rfl, .inl ⟨_, SqL.of hP, fun S nS => ?_⟩⟩
    rw [cutV_drop _ (by decide)]
    have sS := same_new (o := .lst (ms.drop 1)) nS
    have hS := upd_same (H := H') (a := S) (o := .lst (ms.drop 1))
    have ml := hms.1
    rw [List.length_cons] at ml
    refine ⟨S, rfl, ⟨_, SqL.of hS⟩, ?_⟩
    refine for_list (K := K) (a := S) (xs := ms.drop 1) (fun i σ2 H2 => ∃ (v : V) (acc : Tr) (y z : Option V), σ2 = [some (.ref p), some (.ref jl), some (.ref P), y, some v, z] ∧ Same (upd H' S (.lst (ms.drop 1))) H2 ∧ TAt K H2 acc v ∧ (r.drop i).foldl (fun t u => .con false t u) acc = duT c j k) ⟨v0, t0, _, _, rfl, Same.refl _, hv0.same sS, ed.symm⟩ (fun i σ2 H2 hi ⟨_, _, _, _, _, s, _⟩ => SqL.of (s _ _ hS)) ?_ ?_
    · rintro i v σ2 H2 hi ⟨va, acc, y2, z2, rfl, s2, hA, hff⟩
      rw [List.getElem?_drop] at hi
      have il : i < r.length := by
        have := (List.getElem?_eq_some_iff.mp hi).1
        omega
      obtain ⟨u, eu⟩ : ∃ u, r[i]? = some u := ⟨_, List.getElem?_eq_getElem il⟩
      obtain ⟨b, eb, hb⟩ := hms.2 (1 + i) u (by rw [Nat.add_comm]; exact eu)
      rw [eb] at hi
      cases hi
      have hB := hb.same (sS.trans s2)
      have hd : r.drop i = u :: r.drop (i + 1) := by
        obtain ⟨h1, h2⟩ := List.getElem?_eq_some_iff.mp eu
        rw [List.drop_eq_getElem_cons h1, h2]
      rw [hd] at hff
      refine ⟨(by show 3 ≤ sizeLine; decide), fun t nt => ?_⟩
      have st := same_new (o := .tup [.str "or", va, v]) nt
      exact ⟨.ref t, .con false acc u, _, _, rfl, s2.trans st, ⟨t, va, v, rfl, SqT.of upd_same, hA.same st, hB.same st⟩, hff⟩
    · rintro σ2 H2 ⟨va, acc, y2, z2, rfl, s2, hA, hff⟩
      rw [List.length_drop, List.drop_of_length_le (by omega)] at hff
      have hff : acc = duT c j k := hff
      refine ⟨(by show 2 ≤ sizeLine; decide), fun t nt => ?_⟩
      have st := same_new (o := .tup [.str "let", va]) nt
      rw [hff] at hA
      have hp8 := chI_d (c := c) (j := j) (by omega) (chI hc k (by omega))
      have dp := pure_depth hp8.2.1
      exact q _ t (((s.trans sS).trans s2).trans st) ⟨va, upd_same, hA.same st, by have := hp8.2.2; omega⟩
end
section
variable {P : Program} {w : World} {K : PySem.W.Frag} {mg : Str → Option Value} {base : Heap}
variable {t_BOUND t_DIGITS t_LETTERS t_LONGEST_INTEGER t_LONGEST_NAME t_MOST_NESTED : Tok} {a_ALWAYS a_MARKS a_NEVER a_OPPOSITES a_RESERVED a_SIGNS a_BadName a_BadNumber a_BadSign a_BadText a_Condition a_ElseputError a_Reader a_TooLarge : Addr}
def sp__law_unfit (K : PySem.W.Frag) : Sp := fun vs H Q _ => ∃ k : Nat, vs = [.int (k : Int)] ∧ k < 4 ∧ ∀ (H' : Hp) (p : Addr), Same H H' → H p = none → H' p = some (.lst ((unfL k).map V.str)) → Q (.ref p) H'
theorem len__law_unfit {vs : List V} {H : Hp} {Q : VK} {E : XK} (h : sp__law_unfit K vs H Q E) : vs.length = 1 := by
  obtain ⟨_, rfl, _⟩ := h
  rfl
theorem ok__law_unfit {f : Addr} {fd : FuncData} (F : Fun K "_law_unfit" "_law_unfit" s__law_unfit f fd) (T : Gs K mg t_BOUND t_DIGITS t_LETTERS t_LONGEST_INTEGER t_LONGEST_NAME t_MOST_NESTED a_ALWAYS a_MARKS a_NEVER a_OPPOSITES a_RESERVED a_SIGNS a_BadName a_BadNumber a_BadSign a_BadText a_Condition a_ElseputError a_Reader a_TooLarge) : FnOk P w K mg base CX0 1 f fd ["_law_at"] (sp__law_unfit K) := by
  refine F.ok sc__law_unfit (fun vs H Q E h => len__law_unfit h) (fun cdv A outer s H vs Q E hr h => ?_)
  obtain ⟨k, rfl, hk, q⟩ := h
  refine ⟨_, (pss_cons (ps_if (pt_c (eqK K hr.units) (v_ 0) pe_int) (pss_cons (ps_set (i := 1) sc__law_unfit.nd rfl (.inl rfl) (pe_lst (pa_cons pe_str (pa_cons pe_str (pa_cons pe_str (pa_cons pe_str (pa_cons pe_str (pa_cons pe_str (pa_cons pe_str (pa_cons pe_str (pa_cons pe_str (pa_cons pe_str (pa_cons pe_str (pa_cons pe_str (pa_cons pe_str (pa_cons pe_str (pa_cons pe_str pa_nil))))))))))))))))) (pss_one (ps_ret (v_ 1)))) pss_nil) (pss_cons (ps_if (pt_c (eqK K hr.units) (v_ 0) pe_int) (pss_one (ps_ret (pe_lst (pa_cons pe_str (pa_cons pe_str (pa_cons pe_str (pa_cons pe_str (pa_cons pe_str (pa_cons pe_str (pa_cons pe_str (pa_cons pe_str (pa_cons pe_str (pa_cons pe_str (pa_cons pe_str (pa_cons pe_str (pa_cons pe_str (pa_cons pe_str pa_nil))))))))))))))))) pss_nil) (pss_cons (ps_if (pt_c (eqK K hr.units) (v_ 0) pe_int) (pss_cons (ps_set (i := 2) sc__law_unfit.nd rfl (.inl rfl) (pe_callTy call_str_int (by rfl) T.z_str (by decide +kernel) (pa_cons (pe_op (addK K) (pe_op op_powM pe_int pe_int) pe_int) pa_nil))) (pss_one (ps_ret (pe_lst (pa_cons pe_str (pa_cons pe_str (pa_cons pe_str (pa_cons pe_str (pa_cons (v_ 2) (pa_cons (pe_op (addK K) pe_str (v_ 2)) (pa_cons pe_str (pa_cons pe_str (pa_cons pe_str (pa_cons pe_str (pa_cons pe_str (pa_cons pe_str (pa_cons pe_str (pa_cons pe_str pa_nil)))))))))))))))))) pss_nil) (pss_one (ps_ret (pe_lst (pa_cons pe_str (pa_cons pe_str (pa_cons pe_str (pa_cons pe_str (pa_cons pe_str (pa_cons pe_str (pa_cons pe_str (pa_cons pe_str (pa_cons pe_str (pa_cons pe_str (pa_cons pe_str (pa_cons pe_str (pa_cons pe_str (pa_cons pe_str pa_nil)))))))))))))))))))), ?_⟩
  match k, hk with
  | 0, _ => exact ⟨(by show 15 ≤ sizeLine; decide), fun p np => q _ p (same_new np) np upd_same⟩
  | 1, _ => exact ⟨(by show 14 ≤ sizeLine; decide), fun p np => q _ p (same_new np) np upd_same⟩
  | 2, _ =>
    refine ⟨(by unfold CPow; decide), ?_⟩
    refine ⟨1000000000000000000000000000001, congrArg (fun i => [V.int i]) (by decide +kernel), by decide +kernel, ?_⟩
    exact ⟨line_of (by decide +kernel), (by show 14 ≤ sizeLine; decide), fun p np => q _ p (same_new np) np upd_same⟩
  | 3, _ => exact ⟨(by show 14 ≤ sizeLine; decide), fun p np => q _ p (same_new np) np upd_same⟩
/-! ### a line, joined -/
def GapOk (g : Nat) : List (Nat × List Nat) → Prop
  | [] => True
  | x :: r => x.1 = 0 ∧ ∀ y ∈ r, y.1 = g
theorem apart_gap : ∀ {gs : List (Nat × List Nat)}, (∀ x ∈ gs.tail, 0 < x.1) → (∀ x ∈ gs, x.2 ≠ []) → Apart gs
  | [], _, _ => True.intro
  | [_], _, _ => True.intro
  | (g1, p1) :: (g, q) :: r, h, hn => ⟨fun e => absurd e (Nat.pos_iff_ne_zero.mp (h (g, q) List.mem_cons_self)), hn (g, q) (List.mem_cons_of_mem _ List.mem_cons_self), apart_gap (gs := (g, q) :: r) (fun x hx => h x (List.mem_cons_of_mem _ hx)) fun x hx => hn x (List.mem_cons_of_mem _ hx)⟩
def colV (n : Nat) : V := .int (n : Int)
def PcL (z : Str) : Prop := 0 < z.length ∧ z.length ≤ 40
def sp__law_joined (K : PySem.W.Frag) : Sp := fun vs H Q _ => ∃ (p : Addr) (zs : List Str) (g : Nat), vs = [.ref p, .int (g : Int)] ∧ H p = some (.lst (zs.map V.str)) ∧ 0 < g ∧ g ≤ 2 ∧ zs.length ≤ 150 ∧ (∀ z ∈ zs, PcL z) ∧
  ∀ (H' : Hp) (t c : Addr) (line : Str) (gs : List (Nat × List Nat)), Same H H' → H t = none → H c = none → H' t = some (.tup [.str line, .ref c]) → H' c = some (.lst ((cols 1 gs).map colV)) →
    gs.map (·.2) = zs.map (·.cps.toList) → Apart gs → line.cps.toList = lay gs [] → line.length ≤ 42 * zs.length → Q (.ref t) H'
theorem len__law_joined {vs : List V} {H : Hp} {Q : VK} {E : XK} (h : sp__law_joined K vs H Q E) : vs.length = 2 := by
  obtain ⟨_, _, _, rfl, _⟩ := h
  rfl
theorem ok__law_joined {f : Addr} {fd : FuncData} (F : Fun K "_law_joined" "_law_joined" s__law_joined f fd) (T : Gs K mg t_BOUND t_DIGITS t_LETTERS t_LONGEST_INTEGER t_LONGEST_NAME t_MOST_NESTED a_ALWAYS a_MARKS a_NEVER a_OPPOSITES a_RESERVED a_SIGNS a_BadName a_BadNumber a_BadSign a_BadText a_Condition a_ElseputError a_Reader a_TooLarge) : FnOk P w K mg base CX0 1 f fd ["_law_parts", "_law_gap"] (sp__law_joined K) := by
  refine F.ok sc__law_joined (fun vs H Q E h => len__law_joined h) (fun cdv A outer s H vs Q E hr h => ?_)
  obtain ⟨p, zs, g, rfl, hp, g0, g1, hl, hz, q⟩ := h
  refine ⟨_, (pss_cons (ps_set (i := 2) sc__law_joined.nd rfl (.inl rfl) pe_str) (pss_cons (ps_set (i := 3) sc__law_joined.nd rfl (.inl rfl) (pe_lst pa_nil)) (pss_cons (ps_for PassesOwn.never rfl (pi_list (v_ 0)) (pg_name (i := 4) sc__law_joined.nd rfl (.inl rfl)) (Evl.pss_cut (ps_if (pt_c (neK K hr.units) (v_ 2) pe_str) (pss_one (ps_set (i := 2) sc__law_joined.nd rfl (.inl rfl) (pe_op (addK K) (v_ 2) (pe_op op_mulSM pe_str (v_ 1))))) pss_nil) (pss_cons (ps_expr (pe_bm PySem.F.plainAttrs_list PySem.F.slot_list_append PySem.F.type_list_append mt_append (v_ 3) (pa_cons (pe_op (addK K) (pe_callB (lenK K) (by rfl) T.z_len PySem.boot_len (pa_cons (v_ 2) pa_nil)) pe_int) pa_nil))) (pss_one (ps_set (i := 2) sc__law_joined.nd rfl (.inl rfl) (pe_op (addK K) (v_ 2) (v_ 4))))))) (pss_one (ps_ret (pe_tup (pa_cons (v_ 2) (pa_cons (v_ 3) pa_nil)))))))), ?_⟩
  refine ⟨Nat.zero_le _, fun c nc => ?_⟩
  have sc := same_new (o := .lst []) nc
  have cp' : c ≠ p := (ne_of_none hp nc).symm
  have e32 : ∀ k : Int, (repS " " k).cps.toList = List.replicate k.toNat 32 := fun k => repS1
  have l32 : ∀ k : Int, (repS " " k).length = k.toNat := fun k => by rw [← len_cps, e32, List.length_replicate]
  refine ⟨p, rfl, ⟨_, SqL.of (sc _ _ hp)⟩, ?_⟩
  refine for_list (K := K) (a := p) (xs := zs.map V.str) (fun i σ' H' => ∃ (line : Str) (y : Option V) (gs : List (Nat × List Nat)), σ' = [some (.ref p), some (.int (g : Int)), some (.str line), some (.ref c), y] ∧ (∀ b o, b ≠ c → H b = some o → H' b = some o) ∧ H' c = some (.lst ((cols 1 gs).map colV)) ∧
    gs.map (·.2) = (zs.take i).map (·.cps.toList) ∧ (∀ x ∈ gs.tail, 0 < x.1) ∧ (∀ x ∈ gs, x.2 ≠ []) ∧ line.cps.toList = lay gs [] ∧ line.length ≤ 42 * i ∧ (i = 0 ↔ line.length = 0)) ⟨_, _, [], rfl, fun b o _ hb => sc b o hb, upd_same, rfl, fun x h => (nomatch h), fun x h => (nomatch h), rfl, by decide, by decide⟩ (fun i σ' H' hi ⟨_, _, _, _, s, _⟩ => SqL.of (s _ _ cp'.symm hp)) ?_ ?_
  · rintro i v σ' H' hi ⟨line, y, gs, rfl, s, hcc, hgs, hta, hne, hline, hll, hi0⟩
    rw [List.getElem?_map] at hi
    have il : i < zs.length := by
      rcases Nat.lt_or_ge i zs.length with h | h
      · exact h
      · rw [List.getElem?_eq_none h] at hi; cases hi
    have ez : zs[i]? = some zs[i] := List.getElem?_eq_getElem il
    rw [ez] at hi
    cases hi
    obtain ⟨z0, z1⟩ := hz _ (List.mem_of_getElem? ez)
    generalize zs[i] = z at ez z0 z1 ⊢
    have gl : gs.length = i := by
      have := congrArg List.length hgs
      rw [List.length_map, List.length_map, List.length_take] at this
      omega
    refine ⟨fun σ' H2 => ∃ (gap : Nat), σ' = [some (.ref p), some (.int (g : Int)), some (.str (line ++ repS " " (gap : Int))), some (.ref c), some (.str z)] ∧ H2 = H' ∧ gap ≤ 2 ∧ (0 < i → 0 < gap), ?_, ?_⟩
    · refine ite2 (fun e => ?_) (fun e => ?_)
      · refine ⟨by omega, by omega, by decide, ?_⟩
        refine ⟨line_of (by rw [l32]; omega), ?_⟩
        exact ⟨g, rfl, rfl, g1, fun _ => g0⟩
      · have e : line = "" := by
          have e : ¬ (!decide (line = "")) = true := e
          rw [Bool.not_eq_true, Bool.not_eq_false', decide_eq_true_iff] at e
          exact e
        subst e
        refine ⟨0, rfl, rfl, by decide, fun h => ?_⟩
        have : i = 0 := hi0.mpr rfl
        omega
    rintro σ' H2 ⟨gap, rfl, rfl, gap2, gap0⟩
    have la : (line ++ repS " " (gap : Int)).length = line.length + gap := by
      rw [len_add, l32]
      rfl
    have hcl : (cols 1 gs).length = i := by rw [cols_len]; exact gl
    refine ⟨.inl ⟨rfl, _, SqL.of hcc⟩, line_of (by omega), c, _, _, rfl, rfl, hcc, line_lt (by rw [List.length_map, hcl]; omega), ?_⟩
    refine ⟨line_of (by omega), ?_⟩
    refine ⟨_, _, gs ++ [(gap, z.cps.toList)], rfl, fun b o nb hb => ?_, ?_, ?_, ?_, ?_, ?_, ?_, ?_⟩
    · rw [upd_ne nb]
      exact s b o nb hb
    · rw [upd_same, cols_snoc, List.map_append]
      have : colV (1 + (lay gs []).length + gap) = V.int (((line ++ repS " " (gap : Int)).length : Int) + 1) := by
        have : line.length = (lay gs []).length := by rw [← len_cps, hline]
        show V.int _ = _
        congr 1
        omega
      rw [← this]
      rfl
    · rw [List.map_append, hgs, take_snoc ez, List.map_append]
      rfl
    · intro x hx
      cases hgs0 : gs with
      | nil => rw [hgs0] at hx; cases hx
      | cons a r =>
        rw [hgs0] at hx gl
        have hx : x ∈ r ++ [(gap, z.cps.toList)] := hx
        rcases List.mem_append.mp hx with h | h
        · exact hta x (by rw [hgs0]; exact h)
        · rw [List.mem_singleton.mp h]
          exact gap0 (by rw [← gl, List.length_cons]; omega)
    · intro x hx
      rcases List.mem_append.mp hx with h | h
      · exact hne x h
      · rw [List.mem_singleton.mp h]
        intro e
        have := len_cps z
        rw [show z.cps.toList = [] from e] at this
        have : z.length = 0 := this.symm
        omega
    · rw [cps_add, cps_add, hline, e32, lay_snoc, List.append_assoc]
      rfl
    · rw [len_add, la]
      omega
    · rw [len_add, la]
      omega
  · rintro σ' H' ⟨line, y, gs, rfl, s, hcc, hgs, hta, hne, hline, hll, hi0⟩
    rw [List.length_map] at hgs hll
    refine ⟨(by show 2 ≤ sizeLine; decide), fun t nt => ?_⟩
    have st := same_new (o := .tup [.str line, .ref c]) nt
    refine q _ t c line gs (fun b o hb => st _ _ (s b o (ne_of_none hb nc) hb)) ?_ nc upd_same (st _ _ hcc) (by rw [hgs, List.take_length]) (apart_gap hta hne) hline hll
    cases e : H t with
    | none => rfl
    | some o =>
      have tc : t ≠ c := fun e2 => by rw [e2, hcc] at nt; cases nt
      rw [s t o tc e] at nt
      cases nt
end
section
variable {P : Program} {w : World} {K : PySem.W.Frag} {mg : Str → Option Value} {base : Heap}
variable {t_BOUND t_DIGITS t_LETTERS t_LONGEST_INTEGER t_LONGEST_NAME t_MOST_NESTED : Tok} {a_ALWAYS a_MARKS a_NEVER a_OPPOSITES a_RESERVED a_SIGNS a_BadName a_BadNumber a_BadSign a_BadText a_Condition a_ElseputError a_Reader a_TooLarge : Addr}
/-! ### asks, lets -/
theorem lay_lead {gs : List (Nat × List Nat)} {zs : List Str} {line z : Str} {a b : Nat} (hgs : gs.map (·.2) = zs.map (·.cps.toList)) (hap : Apart gs) (hline : line.cps.toList = lay gs []) (hz : z.cps.toList = List.replicate a 32 ++ line.cps.toList ++ List.replicate b 32) (hl : z.length ≤ 10000) : Laid zs (cols (1 + a) gs) z :=
  ⟨a, b, gs, rfl, hgs, hap, by rw [hz, hline, lay_tail (t := List.replicate b 32), List.append_assoc], hl⟩
theorem cols_add : ∀ {gs : List (Nat × List Nat)} {c a : Nat}, cols (c + a) gs = (cols c gs).map (· + a)
  | [], _, _ => rfl
  | (g, p) :: r, c, a => by
    show (c + a + g) :: cols (c + a + g + p.length) r = (c + g + a) :: (cols (c + g + p.length) r).map (· + a)
    rw [← cols_add, show c + a + g = c + g + a by omega, show c + g + a + p.length = c + g + p.length + a by omega]
theorem AllW.pcl {zs : List Str} (h : AllW zs) : ∀ z ∈ zs, PcL z := fun z hz => by
  obtain ⟨h1, h2⟩ := h z hz
  refine ⟨?_, h2⟩
  rw [← len_cps]
  exact List.length_pos_iff.mpr (tok_ne h1)
def sp__law_lets (K : PySem.W.Frag) : Sp := fun vs H Q _ => ∃ (st scr p t : Addr) (zs : List Str) (o : Out), vs = [.ref st, .ref p, .ref t] ∧ DrAt H st scr ∧ H p = some (.lst (zs.map V.str)) ∧ p ≠ st ∧ zs.length ≤ 150 ∧ (∀ z ∈ zs, PcL z) ∧ Gives zs o ∧ OutV K H o t ∧ ∀ H', Bt st H H' → DrAt H' st scr → Q (.bl true) H'
theorem len__law_lets {vs : List V} {H : Hp} {Q : VK} {E : XK} (h : sp__law_lets K vs H Q E) : vs.length = 3 := by
  obtain ⟨_, _, _, _, _, _, rfl, _⟩ := h
  rfl
theorem OutV.bt {H H' : Hp} {st : Addr} {o : Out} {t : Addr} (hs : ∃ l, H st = some (.lst l)) (b : Bt st H H') (h : OutV K H o t) : OutV K H' o t := by
  obtain ⟨l, hs⟩ := hs
  have nt : ∀ {a : Addr} {xs : List V}, H a = some (.tup xs) → H' a = some (.tup xs) := fun {a xs} e => b _ _ (fun z => by rw [z, hs] at e; cases e) e
  cases o with
  | bad c => exact nt h
  | big => exact nt h
  | ok tr =>
    obtain ⟨v, h1, h2, h3⟩ := h
    exact ⟨v, nt h1, h2.bt (NT.lst ⟨_, hs⟩) b, h3⟩
theorem ok__law_lets {f : Addr} {fd : FuncData} {f__law_joined : Addr} {fd__law_joined : FuncData} {f__law_same : Addr} {fd__law_same : FuncData} {f__law_read_it : Addr} {fd__law_read_it : FuncData} {f__law_draw : Addr} {fd__law_draw : FuncData} (F : Fun K "_law_lets" "_law_lets" s__law_lets f fd) (T : Gs K mg t_BOUND t_DIGITS t_LETTERS t_LONGEST_INTEGER t_LONGEST_NAME t_MOST_NESTED a_ALWAYS a_MARKS a_NEVER a_OPPOSITES a_RESERVED a_SIGNS a_BadName a_BadNumber a_BadSign a_BadText a_Condition a_ElseputError a_Reader a_TooLarge) (c__law_joined : Cal P w K mg base CX0 1 "_law_joined" f__law_joined fd__law_joined ["_law_parts", "_law_gap"] (sp__law_joined K)) (c__law_same : Cal P w K mg base CX0 26 "_law_same" f__law_same fd__law_same ["_law_actual", "_law_due"] (sp__law_same K)) (c__law_read_it : Cal P w K mg base CX0 84 "_law_read_it" f__law_read_it fd__law_read_it ["_law_line"] (sp__law_read_it K)) (c__law_draw : Cal P w K mg base CX0 1 "_law_draw" f__law_draw fd__law_draw ["_law_state_here", "_law_many"] (sp__law_draw K)) : FnOk P w K mg base CX0 85 f fd ["_law_state_here", "_law_words", "_law_due"] (sp__law_lets K) := by
  refine F.ok sc__law_lets (fun vs H Q E h => len__law_lets h) (fun cdv A outer s H vs Q E hr h => ?_)
  obtain ⟨st, scr, p, t, zs, o, rfl, hd, hp, pst, hl, hz, hg, ho, q⟩ := h
  refine ⟨_, (pss_cons (ps_asg (pe_call c__law_joined.G (hr.mono (by first | decide | omega)) rfl c__law_joined.m c__law_joined.kp c__law_joined.b .nil pass0 (pa_cons (v_ 1) (pa_cons (pe_op (addK K) pe_int (pe_call c__law_draw.G (hr.mono (by first | decide | omega)) rfl c__law_draw.m c__law_draw.kp c__law_draw.b .nil pass0 (pa_cons (v_ 0) (pa_cons pe_int pa_nil)))) pa_nil))) (pg_tup (by rfl) (pgs_cons (pg_name (i := 3) sc__law_lets.nd rfl (.inl rfl)) (pgs_cons (pg_name (i := 4) sc__law_lets.nd rfl (.inl rfl)) pgs_nil)))) (pss_one (ps_ret (pe_call c__law_same.G (hr.mono (by first | decide | omega)) rfl c__law_same.m c__law_same.kp c__law_same.b .nil pass0 (pa_cons (pe_call c__law_read_it.G (hr.mono (by first | decide | omega)) rfl c__law_read_it.m c__law_read_it.kp c__law_read_it.b .nil pass0 (pa_cons (pe_op (addK K) (pe_op op_mulSM pe_str (pe_call c__law_draw.G (hr.mono (by first | decide | omega)) rfl c__law_draw.m c__law_draw.kp c__law_draw.b .nil pass0 (pa_cons (v_ 0) (pa_cons pe_int pa_nil)))) (v_ 3)) pa_nil)) (pa_cons (v_ 2) pa_nil)))))), ?_⟩
  have e32 : ∀ k : Int, (repS " " k).cps.toList = List.replicate k.toNat 32 := fun k => repS1
  have l32 : ∀ k : Int, (repS " " k).length = k.toNat := fun k => by rw [← len_cps, e32, List.length_replicate]
  refine ⟨st, scr, _, rfl, hd, by decide, many_small (by decide) (by decide), fun r l r0 r1 hd1 => ?_⟩
  have b1 : Bt st H (upd H st (.lst l)) := Bt.st
  have ho1 := ho.bt hd.lst b1
  have hp1 := b1 _ _ pst hp
  generalize upd H st (.lst l) = H1 at hd1 b1 ho1 hp1 ⊢
  refine ⟨p, zs, (1 + r).toNat, by rw [show (((1 + r).toNat : Nat) : Int) = 1 + r by omega]; rfl, hp1, by omega, by omega, hl, hz, fun H2 t2 c line gs s2 nt nc ht2 hc hgs hap hline hll => ?_⟩
  refine ⟨t2, _, rfl, SqT.of ht2, rfl, _, _, rfl, _, _, rfl, rfl, ?_⟩
  have hd2 := hd1.new s2
  have ho2 := ho1.same s2
  have b2 := b1.trans (Bt.same (st := st) s2)
  refine ⟨st, scr, _, rfl, hd2, by decide, many_small (by decide) (by decide), fun r2 l2 r20 r21 hd3 => ?_⟩
  have b3 := b2.trans (Bt.st (st := st) (o := .lst l2))
  have ho3 := ho2.bt hd2.lst (Bt.st (o := .lst l2))
  generalize upd H2 st (.lst l2) = H3 at hd3 b3 ho3 ⊢
  refine ⟨by omega, by omega, by decide, ?_⟩
  refine ⟨line_of (by rw [l32]; omega), ?_⟩
  obtain ⟨pre, out⟩ := hg _ _ (lay_lead (z := repS " " r2 ++ line) (a := r2.toNat) (b := 0) hgs hap hline (by rw [cps_add, e32]; exact (List.append_nil _).symm) (by rw [len_add, l32]; omega))
  refine ⟨_, rfl, pre, fun H4 t4 s4 o4 => ?_⟩
  rw [out] at o4
  exact ⟨_, _, rfl, outv_same o4 (ho3.same s4), q _ (b3.trans (.same s4)) (hd3.new s4)⟩
def sp__law_asks (K : PySem.W.Frag) : Sp := fun vs H Q _ => ∃ (st scr p : Addr) (zs : List Str) (m : Nat), vs = [.ref st, .ref p, .int (m : Int)] ∧ DrAt H st scr ∧ H p = some (.lst (zs.map V.str)) ∧ p ≠ st ∧ zs.length ≤ 150 ∧ (∀ z ∈ zs, PcL z) ∧ Asks zs (min m zs.length) ∧ ∀ H', Bt st H H' → DrAt H' st scr → Q (.bl true) H'
theorem len__law_asks {vs : List V} {H : Hp} {Q : VK} {E : XK} (h : sp__law_asks K vs H Q E) : vs.length = 3 := by
  obtain ⟨_, _, _, _, _, rfl, _⟩ := h
  rfl
theorem ok__law_asks {f : Addr} {fd : FuncData} {f__law_draw : Addr} {fd__law_draw : FuncData} {f__law_joined : Addr} {fd__law_joined : FuncData} {f__law_same : Addr} {fd__law_same : FuncData} {f__law_read_it : Addr} {fd__law_read_it : FuncData} (F : Fun K "_law_asks" "_law_asks" s__law_asks f fd) (T : Gs K mg t_BOUND t_DIGITS t_LETTERS t_LONGEST_INTEGER t_LONGEST_NAME t_MOST_NESTED a_ALWAYS a_MARKS a_NEVER a_OPPOSITES a_RESERVED a_SIGNS a_BadName a_BadNumber a_BadSign a_BadText a_Condition a_ElseputError a_Reader a_TooLarge) (c__law_draw : Cal P w K mg base CX0 1 "_law_draw" f__law_draw fd__law_draw ["_law_state_here", "_law_many"] (sp__law_draw K)) (c__law_joined : Cal P w K mg base CX0 1 "_law_joined" f__law_joined fd__law_joined ["_law_parts", "_law_gap"] (sp__law_joined K)) (c__law_same : Cal P w K mg base CX0 26 "_law_same" f__law_same fd__law_same ["_law_actual", "_law_due"] (sp__law_same K)) (c__law_read_it : Cal P w K mg base CX0 84 "_law_read_it" f__law_read_it fd__law_read_it ["_law_line"] (sp__law_read_it K)) : FnOk P w K mg base CX0 85 f fd ["_law_state_here", "_law_words", "_law_at"] (sp__law_asks K) := by
  refine F.ok sc__law_asks (fun vs H Q E h => len__law_asks h) (fun cdv A outer s H vs Q E hr h => ?_)
  obtain ⟨st, scr, p, zs, m, rfl, hd, hp, pst, hl, hz, hA, q⟩ := h
  refine ⟨_, (pss_cons (ps_set (i := 3) sc__law_asks.nd rfl (.inl rfl) (pe_call c__law_draw.G (hr.mono (by first | decide | omega)) rfl c__law_draw.m c__law_draw.kp c__law_draw.b .nil pass0 (pa_cons (v_ 0) (pa_cons pe_int pa_nil)))) (pss_cons (ps_asg (pe_call c__law_joined.G (hr.mono (by first | decide | omega)) rfl c__law_joined.m c__law_joined.kp c__law_joined.b .nil pass0 (pa_cons (v_ 1) (pa_cons (pe_op (addK K) pe_int (pe_call c__law_draw.G (hr.mono (by first | decide | omega)) rfl c__law_draw.m c__law_draw.kp c__law_draw.b .nil pass0 (pa_cons (v_ 0) (pa_cons pe_int pa_nil)))) pa_nil))) (pg_tup (by rfl) (pgs_cons (pg_name (i := 4) sc__law_asks.nd rfl (.inl rfl)) (pgs_cons (pg_name (i := 5) sc__law_asks.nd rfl (.inl rfl)) pgs_nil)))) (pss_cons (ps_set (i := 4) sc__law_asks.nd rfl (.inl rfl) (pe_op (addK K) (pe_op (addK K) (pe_op op_mulSM pe_str (v_ 3)) (v_ 4)) (pe_op op_mulSM pe_str (pe_call c__law_draw.G (hr.mono (by first | decide | omega)) rfl c__law_draw.m c__law_draw.kp c__law_draw.b .nil pass0 (pa_cons (v_ 0) (pa_cons pe_int pa_nil)))))) (pss_cons (ps_if (pt_c op_ltM (v_ 2) (pe_callB (lenK K) (by rfl) T.z_len PySem.boot_len (pa_cons (v_ 1) pa_nil))) (pss_one (ps_ret (pe_call c__law_same.G (hr.mono (by first | decide | omega)) rfl c__law_same.m c__law_same.kp c__law_same.b .nil pass0 (pa_cons (pe_call c__law_read_it.G (hr.mono (by first | decide | omega)) rfl c__law_read_it.m c__law_read_it.kp c__law_read_it.b .nil pass0 (pa_cons (v_ 4) pa_nil)) (pa_cons (pe_tup (pa_cons pe_str (pa_cons pe_int (pa_cons (pe_op (addK K) (v_ 3) (e_x K (v_ 5) (v_ 2))) pa_nil)))) pa_nil))))) pss_nil) (pss_one (ps_ret (pe_call c__law_same.G (hr.mono (by first | decide | omega)) rfl c__law_same.m c__law_same.kp c__law_same.b .nil pass0 (pa_cons (pe_call c__law_read_it.G (hr.mono (by first | decide | omega)) rfl c__law_read_it.m c__law_read_it.kp c__law_read_it.b .nil pass0 (pa_cons (v_ 4) pa_nil)) (pa_cons (pe_tup (pa_cons pe_str (pa_cons pe_int (pa_cons (pe_op (addK K) (pe_callB (lenK K) (by rfl) T.z_len PySem.boot_len (pa_cons (v_ 4) pa_nil)) pe_int) pa_nil)))) pa_nil))))))))), ?_⟩
  have e32 : ∀ k : Int, (repS " " k).cps.toList = List.replicate k.toNat 32 := fun k => repS1
  have l32 : ∀ k : Int, (repS " " k).length = k.toNat := fun k => by rw [← len_cps, e32, List.length_replicate]
  refine ⟨st, scr, _, rfl, hd, by decide, many_small (by decide) (by decide), fun ld l0 ld0 ld1 hd0 => ?_⟩
  have b0 : Bt st H (upd H st (.lst l0)) := Bt.st
  generalize upd H st (.lst l0) = H0 at hd0 b0 ⊢
  refine ⟨st, scr, _, rfl, hd0, by decide, many_small (by decide) (by decide), fun r l r0 r1 hd1 => ?_⟩
  have b1 := b0.trans (Bt.st (st := st) (o := .lst l))
  have hp1 := b1 _ _ pst hp
  generalize upd H0 st (.lst l) = H1 at hd1 b1 hp1 ⊢
  refine ⟨p, zs, (1 + r).toNat, by rw [show (((1 + r).toNat : Nat) : Int) = 1 + r by omega]; rfl, hp1, by omega, by omega, hl, hz, fun H2 t2 c line gs s2 nt nc ht2 hc hgs hap hline hll => ?_⟩
  refine ⟨t2, _, rfl, SqT.of ht2, rfl, _, _, rfl, _, _, rfl, rfl, ?_⟩
  have hd2 := hd1.new s2
  have b2 := b1.trans (Bt.same (st := st) s2)
  have cs : c ≠ st := hd1.ne_new nc
  refine ⟨by omega, by omega, by decide, ?_⟩
  refine ⟨line_of (by rw [l32]; omega), ?_⟩
  refine ⟨st, scr, _, rfl, hd2, by decide, many_small (by decide) (by decide), fun tl l3 tl0 tl1 hd3 => ?_⟩
  have b3 := b2.trans (Bt.st (st := st) (o := .lst l3))
  have hc3 : upd H2 st (.lst l3) c = some (.lst ((cols 1 gs).map colV)) := by rw [upd_ne cs]; exact hc
  have hp3 := b3 _ _ pst hp
  generalize upd H2 st (.lst l3) = H3 at hd3 b3 hc3 hp3 ⊢
  refine ⟨by omega, by omega, by decide, ?_⟩
  refine ⟨line_of (by rw [len_add, l32, l32]; omega), ?_⟩
  have lay1 := lay_lead (z := repS " " ld ++ line ++ repS " " tl) (a := ld.toNat) (b := tl.toNat) hgs hap hline (by rw [cps_add, cps_add, e32, e32]) (by rw [len_add, len_add, l32, l32]; omega)
  obtain ⟨pre, out⟩ := hA _ _ lay1
  have cl := lay1.len
  refine .inl ⟨_, .inl (SqL.of hp3), ?_⟩
  rw [List.length_map]
  refine ite2 (fun e => ?_) (fun e => ?_)
  · have e : (m : Int) < zs.length := of_decide_eq_true e
    have e : m < zs.length := by omega
    rw [Nat.min_eq_left (by omega)] at out
    refine ⟨_, rfl, pre, fun H4 t4 s4 o4 => ?_⟩
    rw [out] at o4
    have hm : m < (cols 1 gs).length := by
      have := cl
      rw [cols_len] at this ⊢
      omega
    have hcm : (cols 1 gs)[m]? = some (cols 1 gs)[m] := List.getElem?_eq_getElem hm
    refine ⟨_, .inl (SqL.of (s4 _ _ hc3)), colV (cols 1 gs)[m], atI_nat (by rw [List.getElem?_map, hcm]; rfl), ?_⟩
    refine ⟨(by show 3 ≤ sizeLine; decide), fun u nu => ?_⟩
    have su := same_new (o := .tup [.str "bad", .int 1, .int (ld + ((cols 1 gs)[m] : Int))]) nu
    refine ⟨_, _, rfl, outv_same (o4.same su) ?_, q _ ((b3.trans (.same s4)).trans (.same su)) ((hd3.new s4).new su)⟩
    unfold colN
    rw [cols_add, List.getElem?_map, hcm]
    show upd H4 u _ u = some (.tup [.str "bad", .int 1, .int ((((cols 1 gs)[m] + ld.toNat : Nat)) : Int)])
    rw [upd_same, show (((cols 1 gs)[m] + ld.toNat : Nat) : Int) = ld + ((cols 1 gs)[m] : Int) by omega]
  · have e : ¬ (m : Int) < zs.length := of_decide_eq_false (Bool.eq_false_iff.mpr e)
    rw [Nat.min_eq_right (by omega)] at out
    refine ⟨_, rfl, pre, fun H4 t4 s4 o4 => ?_⟩
    rw [out] at o4
    refine ⟨line_of (by rw [len_add, len_add, l32, l32]; omega), (by show 3 ≤ sizeLine; decide), fun u nu => ?_⟩
    have su := same_new (o := .tup [.str "bad", .int 1, .int (((repS " " ld ++ line ++ repS " " tl).length : Int) + 1)]) nu
    refine ⟨_, _, rfl, outv_same (o4.same su) ?_, q _ ((b3.trans (.same s4)).trans (.same su)) ((hd3.new s4).new su)⟩
    unfold colN
    rw [List.getElem?_eq_none (by rw [cl]; exact Nat.le_refl _)]
    exact upd_same
end
section
variable {P : Program} {w : World} {K : PySem.W.Frag} {mg : Str → Option Value} {base : Heap}
variable {t_BOUND t_DIGITS t_LETTERS t_LONGEST_INTEGER t_LONGEST_NAME t_MOST_NESTED : Tok} {a_ALWAYS a_MARKS a_NEVER a_OPPOSITES a_RESERVED a_SIGNS a_BadName a_BadNumber a_BadSign a_BadText a_Condition a_ElseputError a_Reader a_TooLarge : Addr}
/-! ### spoiled lines -/
def others : Str := "=!-\n\"#$&'*+./?@ABCDEFGHIJKLMNOPQRSTUVWXYZ[\\]^_`{|}~"
theorem others_ok {c : Nat} (h : c ∈ others.cps.toList) : Strange c ∧ PcL (⟨#[c]⟩ : Str) := by
  have a : others.cps.toList.all (fun c => !isL c && !isD c && !decide (c = 32) && !inSM [c]) = true := by decide +kernel
  have b := List.all_eq_true.mp a c h
  simp only [Bool.and_eq_true, Bool.not_eq_true', decide_eq_false_iff_not] at b
  obtain ⟨⟨⟨b1, b2⟩, b3⟩, b4⟩ := b
  exact ⟨⟨b1, b2, b3, b4⟩, by show 0 < 1; decide, by show 1 ≤ 40; decide⟩
theorem strs_mid {a b : List Str} {u : Str} : (a.map V.str ++ [V.str u]) ++ b.map V.str = (a ++ u :: b).map V.str := by
  rw [List.map_append, List.map_cons, List.append_assoc]
  rfl
theorem via {G A : Hp → Prop} {R : Prop} (main : (∀ H', A H' → G H') → R) (cont : ∀ H', A H' → G H') : R := main cont
def sp__law_spoils (K : PySem.W.Frag) : Sp := fun vs H Q _ => ∃ (st scr p : Addr) (c : Nat → Cm) (j : Nat → Bool) (n i : Nat), vs = [.ref st, .ref p, .int (i : Int)] ∧ DrAt H st scr ∧ H p = some (.lst ((cw c j n).map V.str)) ∧ p ≠ st ∧ COk c ∧ i < n ∧ n ≤ 5 ∧ ∀ H', Bt st H H' → DrAt H' st scr → Q (.bl true) H'
theorem len__law_spoils {vs : List V} {H : Hp} {Q : VK} {E : XK} (h : sp__law_spoils K vs H Q E) : vs.length = 3 := by
  obtain ⟨_, _, _, _, _, _, _, rfl, _⟩ := h
  rfl
theorem ok__law_spoils {f : Addr} {fd : FuncData} {f__law_draw : Addr} {fd__law_draw : FuncData} {f__law_asks : Addr} {fd__law_asks : FuncData} {f__law_pick : Addr} {fd__law_pick : FuncData} {f__law_unfit : Addr} {fd__law_unfit : FuncData} (F : Fun K "_law_spoils" "_law_spoils" s__law_spoils f fd) (T : Gs K mg t_BOUND t_DIGITS t_LETTERS t_LONGEST_INTEGER t_LONGEST_NAME t_MOST_NESTED a_ALWAYS a_MARKS a_NEVER a_OPPOSITES a_RESERVED a_SIGNS a_BadName a_BadNumber a_BadSign a_BadText a_Condition a_ElseputError a_Reader a_TooLarge) (c__law_draw : Cal P w K mg base CX0 1 "_law_draw" f__law_draw fd__law_draw ["_law_state_here", "_law_many"] (sp__law_draw K)) (c__law_asks : Cal P w K mg base CX0 85 "_law_asks" f__law_asks fd__law_asks ["_law_state_here", "_law_words", "_law_at"] (sp__law_asks K)) (c__law_pick : Cal P w K mg base CX0 2 "_law_pick" f__law_pick fd__law_pick ["_law_state_here", "_law_row"] (sp__law_pick K)) (c__law_unfit : Cal P w K mg base CX0 1 "_law_unfit" f__law_unfit fd__law_unfit ["_law_at"] (sp__law_unfit K)) : FnOk P w K mg base CX0 86 f fd ["_law_state_here", "_law_words", "_law_i"] (sp__law_spoils K) := by
  refine F.ok sc__law_spoils (fun vs H Q E h => len__law_spoils h) (fun cdv A outer s H vs Q E hr h => ?_)
  obtain ⟨st, scr, p, c, j, n, i, rfl, hd, hp, pst, hc, hi, hl, q⟩ := h
  obtain ⟨n1, rfl⟩ : ∃ n1, n = n1 + 1 := ⟨n - 1, by omega⟩
  have hw := cw_len c j n1
  have hcw := cw_w hc j (n1 + 1)
  have cm : CMul 4 (i : Int) ∨ CMulW 4 (i : Int) := .inl (.inl ⟨by decide, by decide⟩)
  refine ⟨_, (pss_cons (ps_set (i := 3) sc__law_spoils.nd rfl (.inl rfl) pe_str) (pss_cons (ps_for PassesOwn.never rfl (pi_range1 rfl T.z_range (pa_cons pe_int pa_nil)) (pg_name (i := 4) sc__law_spoils.nd rfl (.inl rfl)) (pss_cons (ps_if (PW.pt (pw_and (pt_c op_ltM (v_ 4) pe_int) (pw_and1 (pt_not (pt_t K (pe_call c__law_asks.G (hr.mono (by first | decide | omega)) rfl c__law_asks.m c__law_asks.kp c__law_asks.b .nil pass0 (pa_cons (v_ 0) (pa_cons (pe_slice (slK K) (v_ 1) po_none (po_some (pe_op (addK K) (pe_op op_mulSM pe_int (v_ 2)) (v_ 4)))) (pa_cons (pe_callB (lenK K) (by rfl) T.z_len PySem.boot_len (pa_cons (v_ 1) pa_nil)) pa_nil))))))))) (pss_one (ps_ret pe_bl)) pss_nil) (pss_cons (ps_for PassesOwn.never rfl (pi_range1 rfl T.z_range (pa_cons (pe_op (addK K) pe_int (pe_op op_mulSM pe_int (pe_callTy call_intM (by rfl) T.z_int (by decide +kernel) (pa_cons (pe_c (eqK K hr.units) (v_ 4) pe_int) pa_nil)))) pa_nil)) (pg_name (i := 5) sc__law_spoils.nd rfl (.inl rfl)) (pss_cons (ps_set (i := 7) sc__law_spoils.nd rfl (.inl rfl) (pe_op (addK K) (pe_op (addK K) (pe_slice (slK K) (v_ 1) po_none (po_some (pe_op (addK K) (pe_op op_mulSM pe_int (v_ 2)) (v_ 4)))) (pe_lst (pa_cons (pe_call c__law_pick.G (hr.mono (by first | decide | omega)) rfl c__law_pick.m c__law_pick.kp c__law_pick.b .nil pass0 (pa_cons (v_ 0) (pa_cons (pe_call c__law_unfit.G (hr.mono (by first | decide | omega)) rfl c__law_unfit.m c__law_unfit.kp c__law_unfit.b .nil pass0 (pa_cons (v_ 4) pa_nil)) pa_nil))) pa_nil))) (pe_slice (slK K) (v_ 1) (po_some (pe_op (addK K) (pe_op (addK K) (pe_op op_mulSM pe_int (v_ 2)) (v_ 4)) pe_int)) po_none))) (pss_one (ps_if (pt_not (pt_t K (pe_call c__law_asks.G (hr.mono (by first | decide | omega)) rfl c__law_asks.m c__law_asks.kp c__law_asks.b .nil pass0 (pa_cons (v_ 0) (pa_cons (v_ 7) (pa_cons (pe_op (addK K) (pe_op op_mulSM pe_int (v_ 2)) (v_ 4)) pa_nil)))))) (pss_one (ps_ret pe_bl)) pss_nil)))) (pss_cons (ps_set (i := 6) sc__law_spoils.nd rfl (.inl rfl) (pe_call c__law_draw.G (hr.mono (by first | decide | omega)) rfl c__law_draw.m c__law_draw.kp c__law_draw.b .nil pass0 (pa_cons (v_ 0) (pa_cons (pe_op (addK K) (pe_callB (lenK K) (by rfl) T.z_len PySem.boot_len (pa_cons (v_ 1) pa_nil)) pe_int) pa_nil)))) (pss_one (ps_if (pt_not (pt_t K (pe_call c__law_asks.G (hr.mono (by first | decide | omega)) rfl c__law_asks.m c__law_asks.kp c__law_asks.b .nil pass0 (pa_cons (v_ 0) (pa_cons (pe_op (addK K) (pe_op (addK K) (pe_slice (slK K) (v_ 7) po_none (po_some (v_ 6))) (pe_lst (pa_cons (pe_call c__law_pick.G (hr.mono (by first | decide | omega)) rfl c__law_pick.m c__law_pick.kp c__law_pick.b .nil pass0 (pa_cons (v_ 0) (pa_cons (v_ 3) pa_nil))) pa_nil))) (pe_slice (slK K) (v_ 7) (po_some (v_ 6)) po_none)) (pa_cons (v_ 6) pa_nil)))))) (pss_one (ps_ret pe_bl)) pss_nil)))))) (pss_one (ps_ret pe_bl)))), ?_⟩
  refine ⟨4, rfl, by decide, by decide, ?_⟩
  refine for_range (lo := 0) (n := 4) (fun r σ' H' => ∃ (y4 y5 y6 y7 : Option V), σ' = [some (.ref st), some (.ref p), some (.int (i : Int)), some (.str others), y4, y5, y6, y7] ∧ Bt st H H' ∧ DrAt H' st scr) ⟨_, _, _, _, rfl, Bt.refl _ _, hd⟩ ?_ ?_
  · rintro r σ' H' hr ⟨y4, y5, y6, y7, rfl, bt, hd⟩
    refine via (G := ?G) (A := fun H' => Bt st H H' ∧ DrAt H' st scr) (fun cont => ?main) ?rest
    case main =>
      refine ite2 (fun e => ?_) (fun e => ?_)
      · have e : (0 + r : Int) < 3 := of_decide_eq_true e
        have hp1 := bt _ _ pst hp
        refine ⟨cm, 4 * (i : Int) + (0 + r), rfl, .inl ⟨_, SqL.of hp1, fun u nu => ?_⟩⟩
        rw [cutV_take _ (by omega), ← List.map_take, show (4 * (i : Int) + (0 + (r : Int))).toNat = 4 * i + r by omega]
        have su := same_new (o := .lst (((cw c j (n1 + 1)).take (4 * i + r)).map V.str)) nu
        refine .inl ⟨_, .inl (SqL.of (su _ _ hp1)), st, scr, u, (cw c j (n1 + 1)).take (4 * i + r), (cw c j (n1 + 1)).length, by rw [List.length_map]; rfl, hd.new su, upd_same, hd.ne_new nu, by rw [List.length_take]; omega, (all_sub hcw fun z hz => List.mem_of_mem_take hz).pcl, ?_, fun H2 b2 hd2 => ?_⟩
        · rw [show min (cw c j (n1 + 1)).length ((cw c j (n1 + 1)).take (4 * i + r)).length = 4 * i + r by rw [List.length_take]; omega]
          exact asks_cut hc hi (by omega) (by omega)
        · exact cont H2 ⟨(bt.trans (.same su)).trans b2, hd2⟩
      · exact cont H' ⟨bt, hd⟩
    case rest =>
      rintro H' ⟨bt, hd⟩
      have hm : CMul 2 (if decide (0 + (r : Int) = 2) = true then 1 else 0) ∨ CMulW 2 (if decide (0 + (r : Int) = 2) = true then 1 else 0) := by
        by_cases h2 : decide (0 + (r : Int) = 2) = true
        · rw [if_pos h2]
          exact .inl (.inl ⟨by decide, by decide⟩)
        · rw [if_neg h2]
          exact .inl (.inl ⟨by decide, by decide⟩)
      have hb2 : -2 ^ 62 ≤ (2 + 2 * (if decide (0 + (r : Int) = 2) = true then 1 else 0) : Int) ∧ (2 + 2 * (if decide (0 + (r : Int) = 2) = true then 1 else 0) : Int) < 2 ^ 62 := by
        by_cases h2 : decide (0 + (r : Int) = 2) = true
        · rw [if_pos h2]
          decide
        · rw [if_neg h2]
          decide
      refine ⟨hm, _, rfl, hb2.1, hb2.2, ?_⟩
      obtain ⟨N, hN, hN2⟩ : ∃ N : Nat, (2 + 2 * (if decide (0 + (r : Int) = 2) = true then 1 else 0) : Int) = (N : Int) ∧ 2 ≤ N := by
        by_cases h2 : decide (0 + (r : Int) = 2) = true
        · exact ⟨4, by rw [if_pos h2]; rfl, by decide⟩
        · exact ⟨2, by rw [if_neg h2]; rfl, by decide⟩
      rw [hN]
      refine for_range (lo := 0) (n := N) (fun k σ' H' => ∃ (y5 y7 : Option V), σ' = [some (.ref st), some (.ref p), some (.int (i : Int)), some (.str others), some (.int (0 + r)), y5, y6, y7] ∧ Bt st H H' ∧ DrAt H' st scr ∧ (k = 0 ∨ ∃ (sp : Addr) (zs : List Str), y7 = some (.ref sp) ∧ sp ≠ st ∧ H' sp = some (.lst (zs.map V.str)) ∧ (∀ z ∈ zs, WOk z) ∧ (cw c j (n1 + 1)).length ≤ zs.length ∧ zs.length ≤ 60)) ⟨_, _, rfl, bt, hd, .inl rfl⟩ ?_ ?_
      · rintro k σ' H' hk ⟨y5, y7, rfl, bt, hd, _⟩
        have hp1 := bt _ _ pst hp
        refine ⟨cm, 4 * (i : Int) + (0 + r), rfl, .inl ⟨_, SqL.of hp1, fun u nu => ?_⟩⟩
        rw [cutV_take _ (by omega), ← List.map_take, show (4 * (i : Int) + (0 + (r : Int))).toNat = 4 * i + r by omega]
        have us := hd.ne_new nu
        have su := same_new (o := .lst (((cw c j (n1 + 1)).take (4 * i + r)).map V.str)) nu
        have bt1 := bt.trans (.same su)
        have hd1 := hd.new su
        have hu1 := upd_same (H := H') (a := u) (o := .lst (((cw c j (n1 + 1)).take (4 * i + r)).map V.str))
        have hp1 := su _ _ hp1
        generalize upd H' u (.lst (((cw c j (n1 + 1)).take (4 * i + r)).map V.str)) = H1 at hd1 bt1 hu1 hp1 ⊢
        refine ⟨r, by rw [Int.zero_add]; rfl, hr, fun H2 v s2 nv hv => ?_⟩
        have vs : v ≠ st := hd1.ne_new nv
        refine ⟨st, scr, _, rfl, hd1.new s2, .inr ⟨v, _, rfl, hv, vs, ?_, ?_, fun x l hx hd3 => ?_⟩⟩
        · rw [List.length_map]; exact (unfL_len r hr).1
        · rw [List.length_map]; have := (unfL_len r hr).2; omega
        obtain ⟨w, hw2, rfl⟩ := List.mem_map.mp hx
        have hU := unfL_ok hr hw2
        have bt3 := (bt1.trans (.same s2)).trans (Bt.st (st := st) (o := .lst l))
        have hu3 : upd H2 st (.lst l) u = some (.lst (((cw c j (n1 + 1)).take (4 * i + r)).map V.str)) := by rw [upd_ne us]; exact s2 _ _ hu1
        have hp3 : upd H2 st (.lst l) p = some (.lst ((cw c j (n1 + 1)).map V.str)) := by rw [upd_ne pst]; exact s2 _ _ hp1
        generalize upd H2 st (.lst l) = H3 at hd3 bt3 hu3 hp3 ⊢
        refine ⟨(by show 1 ≤ sizeLine; decide), fun d nd => ?_⟩
        have sd := same_new (o := .lst [V.str w]) nd
        have tl : ((cw c j (n1 + 1)).take (4 * i + r)).length = 4 * i + r := by rw [List.length_take]; omega
        refine .inl ⟨_, _, sd _ _ hu3, upd_same, line_of (by rw [List.length_map, tl]; show _ + 1 ≤ _; omega), fun e ne => ?_⟩
        have sde := sd.trans (same_new (o := .lst (((cw c j (n1 + 1)).take (4 * i + r)).map V.str ++ [V.str w])) ne)
        have es : e ≠ st := hd3.ne_new (Same.free sd ne)
        have he4 := upd_same (H := upd H3 d (.lst [V.str w])) (a := e) (o := .lst (((cw c j (n1 + 1)).take (4 * i + r)).map V.str ++ [V.str w]))
        have hd4 := hd3.new sde
        have bt4 := bt3.trans (.same sde)
        have hp4 := sde _ _ hp3
        generalize upd (upd H3 d (.lst [V.str w])) e (.lst (((cw c j (n1 + 1)).take (4 * i + r)).map V.str ++ [V.str w])) = H4 at he4 hd4 bt4 hp4 ⊢
        refine ⟨cm, 4 * (i : Int) + (0 + r) + 1, rfl, .inl ⟨_, SqL.of hp4, fun f nf => ?_⟩⟩
        rw [cutV_drop _ (by omega), ← List.map_drop, show (4 * (i : Int) + (0 + (r : Int)) + 1).toNat = 4 * i + r + 1 by omega]
        have sf := same_new (o := .lst (((cw c j (n1 + 1)).drop (4 * i + r + 1)).map V.str)) nf
        have dl : ((cw c j (n1 + 1)).drop (4 * i + r + 1)).length ≤ 40 := by rw [List.length_drop]; omega
        have zl : ((cw c j (n1 + 1)).take (4 * i + r) ++ w :: (cw c j (n1 + 1)).drop (4 * i + r + 1)).length ≤ 60 := by rw [List.length_append, List.length_cons, tl, List.length_drop]; omega
        have zl2 : (cw c j (n1 + 1)).length ≤ ((cw c j (n1 + 1)).take (4 * i + r) ++ w :: (cw c j (n1 + 1)).drop (4 * i + r + 1)).length := by rw [List.length_append, List.length_cons, tl, List.length_drop]; omega
        have zl3 : 4 * i + r < ((cw c j (n1 + 1)).take (4 * i + r) ++ w :: (cw c j (n1 + 1)).drop (4 * i + r + 1)).length := by rw [List.length_append, List.length_cons, tl]; omega
        have zt : ∀ z ∈ (cw c j (n1 + 1)).take (4 * i + r) ++ w :: (cw c j (n1 + 1)).drop (4 * i + r + 1), WOk z := fun z hz => by
          rcases List.mem_append.mp hz with h | h
          · exact hcw z (List.mem_of_mem_take h)
          · rcases List.mem_cons.mp h with e | h
            · rw [e]; exact hU.1
            · exact hcw z (List.mem_of_mem_drop h)
        have hA := asks_unf (j := j) hc hi (by omega) hr hU
        refine .inl ⟨_, _, sf _ _ he4, upd_same, line_of (by rw [List.length_append, List.length_map, List.length_map, tl]; show _ + 1 + _ ≤ _; omega), fun g ng => ?_⟩
        rw [strs_mid]
        generalize (cw c j (n1 + 1)).take (4 * i + r) ++ w :: (cw c j (n1 + 1)).drop (4 * i + r + 1) = zs at zl zl2 zl3 zt hA ⊢
        have sfg := sf.trans (same_new (o := .lst (zs.map V.str)) ng)
        have gs : g ≠ st := hd4.ne_new (Same.free sf ng)
        refine ⟨cm, st, scr, g, zs, 4 * i + r, by rw [show ((4 * i + r : Nat) : Int) = 4 * (i : Int) + (0 + r) by omega]; rfl, hd4.new sfg, upd_same, gs, by omega, AllW.pcl zt, by rw [Nat.min_eq_left (by omega)]; exact hA, fun H6 b6 hd6 => ?_⟩
        exact ⟨_, _, rfl, (bt4.trans (.same sfg)).trans b6, hd6, .inr ⟨g, zs, rfl, gs, b6 _ _ gs upd_same, zt, zl2, zl⟩⟩
      · rintro σ' H' ⟨y5, y7, rfl, bt, hd, h7⟩
        obtain ⟨sp, zs, rfl, sps, hsp, hzs, hlo, hhi⟩ := h7.resolve_left (by omega)
        have hp1 := bt _ _ pst hp
        refine .inl ⟨_, .inl (SqL.of hp1), st, scr, _, rfl, hd, by omega, many_small (by omega) (by rw [List.length_map]; omega), fun s l s0 s1 hd1 => ?_⟩
        rw [List.length_map] at s1
        have bt1 := bt.trans (Bt.st (st := st) (o := .lst l))
        have hsp1 : upd H' st (.lst l) sp = some (.lst (zs.map V.str)) := by rw [upd_ne sps]; exact hsp
        generalize upd H' st (.lst l) = H1 at hd1 bt1 hsp1 ⊢
        obtain ⟨s, rfl⟩ := Int.eq_ofNat_of_zero_le s0
        refine ⟨(s : Int), rfl, .inl ⟨_, SqL.of hsp1, fun u nu => ?_⟩⟩
        rw [cutV_take _ (by omega), ← List.map_take, show ((s : Int)).toNat = s by omega]
        have us := hd1.ne_new nu
        have su := same_new (o := .lst ((zs.take s).map V.str)) nu
        have bt2 := bt1.trans (.same su)
        have hd2 := hd1.new su
        have hu2 := upd_same (H := H1) (a := u) (o := .lst ((zs.take s).map V.str))
        have hsp2 := su _ _ hsp1
        generalize upd H1 u (.lst ((zs.take s).map V.str)) = H2 at hd2 bt2 hu2 hsp2 ⊢
        refine ⟨st, scr, _, rfl, hd2, .inl ⟨others, rfl, by decide +kernel, by decide +kernel, fun ch l hch hd3 => ?_⟩⟩
        obtain ⟨hS, hP⟩ := others_ok hch
        have bt3 := bt2.trans (Bt.st (st := st) (o := .lst l))
        have hu3 : upd H2 st (.lst l) u = some (.lst ((zs.take s).map V.str)) := by rw [upd_ne us]; exact hu2
        have hsp3 : upd H2 st (.lst l) sp = some (.lst (zs.map V.str)) := by rw [upd_ne sps]; exact hsp2
        generalize upd H2 st (.lst l) = H3 at hd3 bt3 hu3 hsp3 ⊢
        refine ⟨(by show 1 ≤ sizeLine; decide), fun d nd => ?_⟩
        have sd := same_new (o := .lst [V.str ⟨#[ch]⟩]) nd
        have tl : (zs.take s).length ≤ 60 := by rw [List.length_take]; omega
        refine .inl ⟨_, _, sd _ _ hu3, upd_same, line_of (by rw [List.length_map]; show _ + 1 ≤ _; omega), fun e ne => ?_⟩
        have sde := sd.trans (same_new (o := .lst ((zs.take s).map V.str ++ [V.str ⟨#[ch]⟩])) ne)
        have he4 := upd_same (H := upd H3 d (.lst [V.str ⟨#[ch]⟩])) (a := e) (o := .lst ((zs.take s).map V.str ++ [V.str ⟨#[ch]⟩]))
        have hd4 := hd3.new sde
        have bt4 := bt3.trans (.same sde)
        have hsp4 := sde _ _ hsp3
        generalize upd (upd H3 d (.lst [V.str ⟨#[ch]⟩])) e (.lst ((zs.take s).map V.str ++ [V.str ⟨#[ch]⟩])) = H4 at he4 hd4 bt4 hsp4 ⊢
        refine ⟨(s : Int), rfl, .inl ⟨_, SqL.of hsp4, fun f nf => ?_⟩⟩
        rw [cutV_drop _ (by omega), ← List.map_drop, show ((s : Int)).toNat = s by omega]
        have sf := same_new (o := .lst ((zs.drop s).map V.str)) nf
        have dl : (zs.drop s).length ≤ 60 := by rw [List.length_drop]; omega
        refine .inl ⟨_, _, sf _ _ he4, upd_same, line_of (by rw [List.length_append, List.length_map, List.length_map]; show _ + 1 + _ ≤ _; omega), fun g ng => ?_⟩
        rw [strs_mid]
        have hA := asks_bad (us := zs.take s) (vs := zs.drop s) (c := ch) (all_sub hzs fun z hz => List.mem_of_mem_take hz) hS
        rw [show (zs.take s).length = s by rw [List.length_take]; omega] at hA
        have zl : (zs.take s ++ (⟨#[ch]⟩ : Str) :: zs.drop s).length ≤ 100 := by rw [List.length_append, List.length_cons, List.length_take, List.length_drop]; omega
        have zl2 : s ≤ (zs.take s ++ (⟨#[ch]⟩ : Str) :: zs.drop s).length := by rw [List.length_append, List.length_cons, List.length_take]; omega
        have zt : ∀ z ∈ zs.take s ++ (⟨#[ch]⟩ : Str) :: zs.drop s, PcL z := fun z hz => by
          rcases List.mem_append.mp hz with h | h
          · exact AllW.pcl hzs z (List.mem_of_mem_take h)
          · rcases List.mem_cons.mp h with e | h
            · rw [e]; exact hP
            · exact AllW.pcl hzs z (List.mem_of_mem_drop h)
        generalize zs.take s ++ (⟨#[ch]⟩ : Str) :: zs.drop s = ws at hA zl zl2 zt ⊢
        have sfg := sf.trans (same_new (o := .lst (ws.map V.str)) ng)
        have gs : g ≠ st := hd4.ne_new (Same.free sf ng)
        refine ⟨st, scr, g, ws, s, rfl, hd4.new sfg, upd_same, gs, by omega, zt, by rw [Nat.min_eq_left zl2]; exact hA, fun H6 b6 hd6 => ?_⟩
        exact ⟨_, _, _, _, rfl, (bt4.trans (.same sfg)).trans b6, hd6⟩
  · rintro σ' H' ⟨y4, y5, y6, y7, rfl, bt, hd⟩
    exact q _ bt hd
end
section
variable {P : Program} {w : World} {K : PySem.W.Frag} {mg : Str → Option Value} {base : Heap}
variable {t_BOUND t_DIGITS t_LETTERS t_LONGEST_INTEGER t_LONGEST_NAME t_MOST_NESTED : Tok} {a_ALWAYS a_MARKS a_NEVER a_OPPOSITES a_RESERVED a_SIGNS a_BadName a_BadNumber a_BadSign a_BadText a_Condition a_ElseputError a_Reader a_TooLarge : Addr}
/-! ### deep lines by the law -/
theorem opN_snoc (v : Tr) : ∀ (ops : List Bool) (b : Bool), opN (ops ++ [b]) v = if b = true then oppT (opN ops v) else opN ops v
  | [], b => by cases b <;> rfl
  | true :: r, b => by
    show oppT (opN (r ++ [b]) v) = _
    rw [opN_snoc v r b]
    cases b <;> rfl
  | false :: r, b => by
    show opN (r ++ [b]) v = _
    rw [opN_snoc v r b]
    cases b <;> rfl
theorem nP_snoc : ∀ (ops : List Bool) (b : Bool), nP (ops ++ [b]) = if b = true then nP ops else nP ops + 1
  | [], b => by cases b <;> rfl
  | true :: r, b => nP_snoc r b
  | false :: r, b => by
    show nP (r ++ [b]) + 1 = _
    rw [nP_snoc r b]
    cases b <;> rfl
theorem opN_lf {v : Tr} (h : v.pure ∧ v.ok ∧ v.cs.length = 1 ∧ v.depth = 0) : ∀ ops, (opN ops v).pure ∧ (opN ops v).ok ∧ (opN ops v).cs.length = 1 ∧ (opN ops v).depth = 0
  | [] => h
  | true :: r => by
    obtain ⟨h1, h2, h3, h4⟩ := opN_lf h r
    exact ⟨opp_pure h1, oppT_ok h2, by show (oppT _).cs.length = 1; rw [oppT_cs, List.length_map]; exact h3, by show (oppT _).depth = 0; rw [oppT_depth]; exact h4⟩
  | false :: r => opN_lf h r
theorem lf_all {c : Nat → Cm} (hc : COk c) (k : Nat) : (lf (c k)).pure ∧ (lf (c k)).ok ∧ (lf (c k)).cs.length = 1 ∧ (lf (c k)).depth = 0 := ⟨True.intro, fun x hx => by
  rw [List.mem_singleton.mp hx]
  exact hc k, rfl, rfl⟩
theorem opsW_snoc (ops : List Bool) (b : Bool) : opsW (ops ++ [b]) = opsW ops ++ [opW b] := by
  unfold opsW
  rw [List.map_append]
  rfl
theorem clos_snoc (n : Nat) : clos (n + 1) = clos n ++ [(")" : Str)] := List.replicate_succ'
theorem cut12 {xs : List V} (h : 2 ≤ xs.length) : cutV xs (some 1) (some 2) = (xs.drop 1).take 1 := by
  show cutV xs (some ((1 : Nat) : Int)) (some ((2 : Nat) : Int)) = _
  unfold cutV
  rw [HT.sIx_nat, HT.sIx_nat, Nat.min_eq_left (by omega), Nat.min_eq_left (by omega)]
theorem deep_gives {c : Nat → Cm} (hc : COk c) {ops : List Bool} (hl : ops.length = 20) : Gives (opsW ops ++ w3 (c 1) ++ clos (nP ops)) (.ok (opN ops (lf (c 1)))) := by
  have lo : (opsW ops).length = 20 := by unfold opsW; rw [List.length_map, hl]
  have := nP_le ops
  refine gives_D ((fl_deep (fl_c hc 1) ops).c.d) (by omega) (((ops_w ops).app (w3_w hc 1)).app (clos_w _)) ?_
  rw [List.length_append, List.length_append, lo]
  unfold clos
  rw [List.length_replicate]
  show 20 + 3 + _ ≤ _
  omega
theorem deep_gives2 {c : Nat → Cm} (hc : COk c) {ops : List Bool} (hl : ops.length = 20) : Gives ((["not"] : List Str) ++ w3 (c 0) ++ (["and"] : List Str) ++ opsW ops ++ w3 (c 1) ++ clos (nP ops)) (.ok (.con true (oppT (lf (c 0))) (opN ops (lf (c 1))))) := by
  have lo : (opsW ops).length = 20 := by unfold opsW; rw [List.length_map, hl]
  have := nP_le ops
  obtain ⟨h1, h2, h3, h4⟩ := opN_lf (lf_all hc 1) ops
  obtain ⟨k1, k2, k3, k4⟩ := lf_all hc 0
  have k3' : (oppT (lf (c 0))).cs.length = 1 := rfl
  have g := ((fl_c hc 0).nt.c.mono (by decide : 0 + 1 ≤ 20)).snoc ((fl_deep (fl_c hc 1) ops).mono (by omega : ops.length ≤ 20)) (jp (opp_pure k1) h1 (by omega))
  rw [joinT_pure (opp_pure k1) h1] at g
  have e : (["not"] : List Str) ++ w3 (c 0) ++ [wd true] ++ (opsW ops ++ w3 (c 1) ++ clos (nP ops)) = (["not"] : List Str) ++ w3 (c 0) ++ (["and"] : List Str) ++ opsW ops ++ w3 (c 1) ++ clos (nP ops) := by
    simp only [List.append_assoc]
    rfl
  rw [e] at g
  refine gives_D g.d (by decide) ((((((AllW.one wok_not).app (w3_w hc 0)).app (AllW.one (wok_wd true))).app (ops_w ops)).app (w3_w hc 1)).app (clos_w _)) ?_
  rw [← e]
  simp only [List.length_append, lo]
  unfold clos
  rw [List.length_replicate]
  show 1 + 3 + 1 + (20 + 3 + _) ≤ _
  omega
theorem AllW.len_le {zs : List Str} {n : Nat} (h : zs.length ≤ n) : zs.length ≤ n := h
def sp__law_deep (K : PySem.W.Frag) : Sp := fun vs H Q _ => ∃ (st scr p : Addr) (xs : List V) (c : Nat → Cm) (n : Nat), vs = [.ref st, .ref p] ∧ DrAt H st scr ∧ H p = some (.lst xs) ∧ p ≠ st ∧ CAt K H xs c n ∧ COk c ∧ 2 ≤ n ∧ n ≤ 20 ∧ ∀ H', Bt st H H' → DrAt H' st scr → Q (.bl true) H'
theorem len__law_deep {vs : List V} {H : Hp} {Q : VK} {E : XK} (h : sp__law_deep K vs H Q E) : vs.length = 2 := by
  obtain ⟨_, _, _, _, _, _, rfl, _⟩ := h
  rfl
theorem CAt.bt {K : PySem.W.Frag} {H H' : Hp} {st : Addr} {xs : List V} {c : Nat → Cm} {n : Nat} (h : CAt K H xs c n) (hs : ∃ l, H st = some (.lst l)) (b : Bt st H H') : CAt K H' xs c n := ⟨h.1, fun k hk => by
  obtain ⟨a, e, q⟩ := h.2 k hk
  exact ⟨a, e, SqT.bt q (NT.lst hs) b⟩⟩
theorem CAt.cut {K : PySem.W.Frag} {H : Hp} {xs : List V} {c : Nat → Cm} {n m d : Nat} (h : CAt K H xs c n) (hm : m + d ≤ n) : CAt K H ((xs.drop d).take m) (fun k => c (k + d)) m := ⟨by rw [List.length_take, List.length_drop, h.1]; omega, fun k hk => by
  obtain ⟨a, e, q⟩ := h.2 (k + d) (by omega)
  exact ⟨a, by rw [List.getElem?_take, if_pos hk, List.getElem?_drop, Nat.add_comm]; exact e, q⟩⟩
theorem ok__law_deep {f : Addr} {fd : FuncData} {f__law_draw : Addr} {fd__law_draw : FuncData} {f__law_chain : Addr} {fd__law_chain : FuncData} {f__law_lets : Addr} {fd__law_lets : FuncData} {f__law_asks : Addr} {fd__law_asks : FuncData} {f__law_opposite : Addr} {fd__law_opposite : FuncData} {f__law_pick : Addr} {fd__law_pick : FuncData} (F : Fun K "_law_deep" "_law_deep" s__law_deep f fd) (T : Gs K mg t_BOUND t_DIGITS t_LETTERS t_LONGEST_INTEGER t_LONGEST_NAME t_MOST_NESTED a_ALWAYS a_MARKS a_NEVER a_OPPOSITES a_RESERVED a_SIGNS a_BadName a_BadNumber a_BadSign a_BadText a_Condition a_ElseputError a_Reader a_TooLarge) (c__law_draw : Cal P w K mg base CX0 1 "_law_draw" f__law_draw fd__law_draw ["_law_state_here", "_law_many"] (sp__law_draw K)) (c__law_chain : Cal P w K mg base CX0 1 "_law_chain" f__law_chain fd__law_chain ["_law_comps", "_law_joiners"] (sp__law_chain K)) (c__law_lets : Cal P w K mg base CX0 85 "_law_lets" f__law_lets fd__law_lets ["_law_state_here", "_law_words", "_law_due"] (sp__law_lets K)) (c__law_asks : Cal P w K mg base CX0 85 "_law_asks" f__law_asks fd__law_asks ["_law_state_here", "_law_words", "_law_at"] (sp__law_asks K)) (c__law_opposite : Cal P w K mg base CX0 22 "_law_opposite" f__law_opposite fd__law_opposite ["_law_tree"] (sp__law_opposite K)) (c__law_pick : Cal P w K mg base CX0 2 "_law_pick" f__law_pick fd__law_pick ["_law_state_here", "_law_row"] (sp__law_pick K)) : FnOk P w K mg base CX0 86 f fd ["_law_state_here", "_law_comps"] (sp__law_deep K) := by
  refine F.ok sc__law_deep (fun vs H Q E h => len__law_deep h) (fun cdv A outer s H vs Q E hr h => ?_)
  obtain ⟨st, scr, p, xs, c, n, rfl, hd, hp, pst, hx, hc, n2, n20, q⟩ := h
  refine ⟨_, (pss_cons (ps_set (i := 2) sc__law_deep.nd rfl (.inl rfl) (pe_call c__law_draw.G (hr.mono (by first | decide | omega)) rfl c__law_draw.m c__law_draw.kp c__law_draw.b .nil pass0 (pa_cons (v_ 0) (pa_cons pe_int pa_nil)))) (pss_cons (ps_set (i := 3) sc__law_deep.nd rfl (.inl rfl) (pe_lst pa_nil)) (pss_cons (ps_set (i := 4) sc__law_deep.nd rfl (.inl rfl) (pe_lst pa_nil)) (pss_cons (ps_set (i := 5) sc__law_deep.nd rfl (.inl rfl) (e_x K (v_ 1) pe_int)) (pss_cons (ps_for PassesOwn.never rfl (pi_range1 rfl T.z_range (pa_cons pe_int pa_nil)) (pg_name (i := 6) sc__law_deep.nd rfl (.inl rfl)) (Evl.pss_cut (ps_if (pt_c (eqK K hr.units) (pe_op op_modM (v_ 2) pe_int) pe_int) (pss_cons (ps_expr (pe_bm PySem.F.plainAttrs_list PySem.F.slot_list_append PySem.F.type_list_append mt_append (v_ 3) (pa_cons pe_str pa_nil))) (pss_one (ps_set (i := 5) sc__law_deep.nd rfl (.inl rfl) (pe_call c__law_opposite.G (hr.mono (by first | decide | omega)) rfl c__law_opposite.m c__law_opposite.kp c__law_opposite.b .nil pass0 (pa_cons (v_ 5) pa_nil))))) (pss_cons (ps_expr (pe_bm PySem.F.plainAttrs_list PySem.F.slot_list_append PySem.F.type_list_append mt_append (v_ 3) (pa_cons pe_str pa_nil))) (pss_one (ps_expr (pe_bm PySem.F.plainAttrs_list PySem.F.slot_list_append PySem.F.type_list_append mt_append (v_ 4) (pa_cons pe_str pa_nil)))))) (pss_one (ps_set (i := 2) sc__law_deep.nd rfl (.inl rfl) (pe_op op_divM (v_ 2) pe_int))))) (pss_cons (ps_set (i := 7) sc__law_deep.nd rfl (.inl rfl) (pe_call c__law_chain.G (hr.mono (by first | decide | omega)) rfl c__law_chain.m c__law_chain.kp c__law_chain.b .nil pass0 (pa_cons (pe_slice (slK K) (v_ 1) (po_some pe_int) (po_some pe_int)) (pa_cons (pe_lst pa_nil) pa_nil)))) (pss_cons (ps_if (pt_not (pt_t K (pe_call c__law_lets.G (hr.mono (by first | decide | omega)) rfl c__law_lets.m c__law_lets.kp c__law_lets.b .nil pass0 (pa_cons (v_ 0) (pa_cons (pe_op (addK K) (pe_op (addK K) (v_ 3) (v_ 7)) (v_ 4)) (pa_cons (pe_tup (pa_cons pe_str (pa_cons (v_ 5) pa_nil))) pa_nil)))))) (pss_one (ps_ret pe_bl)) pss_nil) (pss_cons (ps_set (i := 8) sc__law_deep.nd rfl (.inl rfl) (pe_op (addK K) (pe_op (addK K) (pe_op (addK K) (pe_op (addK K) (pe_op (addK K) (pe_lst (pa_cons pe_str pa_nil)) (pe_call c__law_chain.G (hr.mono (by first | decide | omega)) rfl c__law_chain.m c__law_chain.kp c__law_chain.b .nil pass0 (pa_cons (pe_slice (slK K) (v_ 1) po_none (po_some pe_int)) (pa_cons (pe_lst pa_nil) pa_nil)))) (pe_lst (pa_cons pe_str pa_nil))) (v_ 3)) (v_ 7)) (v_ 4))) (pss_cons (ps_if (pt_not (pt_t K (pe_call c__law_lets.G (hr.mono (by first | decide | omega)) rfl c__law_lets.m c__law_lets.kp c__law_lets.b .nil pass0 (pa_cons (v_ 0) (pa_cons (v_ 8) (pa_cons (pe_tup (pa_cons pe_str (pa_cons (pe_tup (pa_cons pe_str (pa_cons (pe_call c__law_opposite.G (hr.mono (by first | decide | omega)) rfl c__law_opposite.m c__law_opposite.kp c__law_opposite.b .nil pass0 (pa_cons (e_x K (v_ 1) pe_int) pa_nil)) (pa_cons (v_ 5) pa_nil)))) pa_nil))) pa_nil)))))) (pss_one (ps_ret pe_bl)) pss_nil) (pss_cons (ps_set (i := 8) sc__law_deep.nd rfl (.inl rfl) (pe_op (addK K) (pe_op (addK K) (pe_op (addK K) (v_ 3) (pe_lst (pa_cons (pe_call c__law_pick.G (hr.mono (by first | decide | omega)) rfl c__law_pick.m c__law_pick.kp c__law_pick.b .nil pass0 (pa_cons (v_ 0) (pa_cons (pe_lst (pa_cons pe_str (pa_cons pe_str pa_nil))) pa_nil))) pa_nil))) (v_ 7)) (v_ 4))) (pss_cons (ps_if (pt_not (pt_t K (pe_call c__law_asks.G (hr.mono (by first | decide | omega)) rfl c__law_asks.m c__law_asks.kp c__law_asks.b .nil pass0 (pa_cons (v_ 0) (pa_cons (v_ 8) (pa_cons pe_int pa_nil)))))) (pss_one (ps_ret pe_bl)) pss_nil) (pss_cons (ps_set (i := 8) sc__law_deep.nd rfl (.inl rfl) (pe_op (addK K) (pe_op (addK K) (v_ 3) (v_ 7)) (pe_slice (slK K) (v_ 4) (po_some pe_int) po_none))) (pss_one (ps_ret (pe_orM (pe_c (eqK K hr.units) (pe_callB (lenK K) (by rfl) T.z_len PySem.boot_len (pa_cons (v_ 4) pa_nil)) pe_int) (pe_one (pe_call c__law_asks.G (hr.mono (by first | decide | omega)) rfl c__law_asks.m c__law_asks.kp c__law_asks.b .nil pass0 (pa_cons (v_ 0) (pa_cons (v_ 8) (pa_cons (pe_callB (lenK K) (by rfl) T.z_len PySem.boot_len (pa_cons (v_ 8) pa_nil)) pa_nil)))))))))))))))))))), ?_⟩
  have hv0 := lf_all hc 1
  refine ⟨st, scr, _, rfl, hd, by decide, many_small (by decide) (by decide), fun code l co0 co1 hd1 => ?_⟩
  have b1 : Bt st H (upd H st (.lst l)) := Bt.st
  have hx1 := hx.bt hd.lst b1
  have hp1 := b1 _ _ pst hp
  generalize upd H st (.lst l) = H1 at hd1 b1 hx1 hp1 ⊢
  refine ⟨Nat.zero_le _, fun O nO => ?_⟩
  have sO := same_new (o := .lst []) nO
  have hO := upd_same (H := H1) (a := O) (o := .lst [])
  have hd2 := hd1.new sO
  have Os := hd1.ne_new nO
  have Oc := hd1.ne_scr nO
  have hx2 := hx1.same sO
  have hp2 := sO _ _ hp1
  have b2 := b1.trans (Bt.same (st := st) sO)
  have nO0 : H O = none := b1.free Os nO
  generalize upd H1 O (.lst []) = H2 at sO hO hd2 hx2 hp2 b2 ⊢
  refine ⟨Nat.zero_le _, fun C nC => ?_⟩
  have sC := same_new (o := .lst []) nC
  have hC := upd_same (H := H2) (a := C) (o := .lst [])
  have hd3 := hd2.new sC
  have Cs := hd2.ne_new nC
  have Cc := hd2.ne_scr nC
  have hx3 := hx2.same sC
  have hp3 := sC _ _ hp2
  have b3 := b2.trans (Bt.same (st := st) sC)
  have hO3 := sC _ _ hO
  have CO : C ≠ O := (ne_of_none hO nC).symm
  have nC0 : H C = none := b2.free Cs nC
  generalize upd H2 C (.lst []) = H3 at sC hC hd3 hx3 hp3 b3 hO3 ⊢
  obtain ⟨a1, ea1, ha1⟩ := hx3.2 1 (by omega)
  obtain ⟨a0, ea0, ha0⟩ := hx3.2 0 (by omega)
  refine ⟨_, .inl (SqL.of hp3), .ref a1, atI_nat (j := 1) ea1, ?_⟩
  refine ⟨20, rfl, by decide, by decide, ?_⟩
  refine for_range (lo := 0) (n := 20) (fun i σ' H' => ∃ (code : Int) (v : V) (y : Option V) (ops : List Bool), σ' = [some (.ref st), some (.ref p), some (.int code), some (.ref O), some (.ref C), some v, y, none, none] ∧ ops.length = i ∧ Bt st H H' ∧ DrAt H' st scr ∧
    H' O = some (.lst ((opsW ops).map V.str)) ∧ H' C = some (.lst ((clos (nP ops)).map V.str)) ∧ TAt K H' (opN ops (lf (c 1))) v ∧ CAt K H' xs c n) ⟨code, .ref a1, _, [], rfl, rfl, b3, hd3, hO3, hC, ⟨a1, rfl, ha1⟩, hx3⟩ ?_ ?_
  · rintro i σ' H' hi ⟨code, v, y, ops, rfl, ol, bt, hd, hO, hC, hv, hx⟩
    have np := nP_le ops
    have lo : (opsW ops).length = i := by unfold opsW; rw [List.length_map, ol]
    have lcl : (clos (nP ops)).length = nP ops := List.length_replicate
    obtain ⟨h1, h2, h3, h4⟩ := opN_lf hv0 ops
    refine ⟨fun σ' H' => ∃ (v : V) (ops : List Bool), σ' = [some (.ref st), some (.ref p), some (.int code), some (.ref O), some (.ref C), some v, some (.int (0 + i)), none, none] ∧ ops.length = i + 1 ∧ Bt st H H' ∧ DrAt H' st scr ∧
      H' O = some (.lst ((opsW ops).map V.str)) ∧ H' C = some (.lst ((clos (nP ops)).map V.str)) ∧ TAt K H' (opN ops (lf (c 1))) v ∧ CAt K H' xs c n, ?_, ?_⟩
    · refine ⟨by decide, ?_⟩
      refine ite2 (fun e => ?_) (fun e => ?_)
      · refine ⟨.inl ⟨rfl, _, SqL.of hO⟩, O, _, _, rfl, rfl, hO, line_lt (by rw [List.length_map, lo]; omega), ?_⟩
        have u1 : ∀ o : HO, Bt O H' (upd H' O o) := fun o => Bt.st
        have hv1 := hv.bt (NT.lst ⟨_, hO⟩) (u1 (.lst ((opsW ops).map V.str ++ [.str "not"])))
        have hx1 := hx.bt ⟨_, hO⟩ (u1 (.lst ((opsW ops).map V.str ++ [.str "not"])))
        have hd1 := hd.at (o := .lst ((opsW ops).map V.str ++ [.str "not"])) Os Oc
        have bt1 : Bt st H (upd H' O (.lst ((opsW ops).map V.str ++ [.str "not"]))) := fun b o nb hb => by
          rw [upd_ne (ne_of_none hb nO0)]
          exact bt b o nb hb
        have hO1 := upd_same (H := H') (a := O) (o := .lst ((opsW ops).map V.str ++ [.str "not"]))
        have hC1 : upd H' O (.lst ((opsW ops).map V.str ++ [.str "not"])) C = some (.lst ((clos (nP ops)).map V.str)) := by rw [upd_ne CO]; exact hC
        generalize upd H' O (.lst ((opsW ops).map V.str ++ [.str "not"])) = H4 at hv1 hx1 hd1 bt1 hO1 hC1 ⊢
        refine ⟨v, _, rfl, hv1, by omega, h2, fun H5 u s5 hu => ?_⟩
        refine ⟨u, ops ++ [true], rfl, by rw [List.length_append, ol]; rfl, bt1.trans (.same s5), hd1.new s5, ?_, ?_, ?_, hx1.same s5⟩
        · rw [s5 _ _ hO1, opsW_snoc, List.map_append]
          rfl
        · rw [s5 _ _ hC1, nP_snoc]
          rfl
        · rw [opN_snoc]
          exact hu
      · refine ⟨.inl ⟨rfl, _, SqL.of hO⟩, O, _, _, rfl, rfl, hO, line_lt (by rw [List.length_map, lo]; omega), ?_⟩
        have u1 : ∀ o : HO, Bt O H' (upd H' O o) := fun o => Bt.st
        have hv1 := hv.bt (NT.lst ⟨_, hO⟩) (u1 (.lst ((opsW ops).map V.str ++ [.str "("])))
        have hx1 := hx.bt ⟨_, hO⟩ (u1 (.lst ((opsW ops).map V.str ++ [.str "("])))
        have hd1 := hd.at (o := .lst ((opsW ops).map V.str ++ [.str "("])) Os Oc
        have bt1 : Bt st H (upd H' O (.lst ((opsW ops).map V.str ++ [.str "("]))) := fun b o nb hb => by
          rw [upd_ne (ne_of_none hb nO0)]
          exact bt b o nb hb
        have hO1 := upd_same (H := H') (a := O) (o := .lst ((opsW ops).map V.str ++ [.str "("]))
        have hC1 : upd H' O (.lst ((opsW ops).map V.str ++ [.str "("])) C = some (.lst ((clos (nP ops)).map V.str)) := by rw [upd_ne CO]; exact hC
        generalize upd H' O (.lst ((opsW ops).map V.str ++ [.str "("])) = H4 at hv1 hx1 hd1 bt1 hO1 hC1 ⊢
        refine ⟨.inl ⟨rfl, _, SqL.of hC1⟩, C, _, _, rfl, rfl, hC1, line_lt (by rw [List.length_map, lcl]; omega), ?_⟩
        have u2 : ∀ o : HO, Bt C H4 (upd H4 C o) := fun o => Bt.st
        refine ⟨v, ops ++ [false], rfl, by rw [List.length_append, ol]; rfl, fun b o nb hb => ?_, hd1.at Cs Cc, ?_, ?_, ?_, hx1.bt ⟨_, hC1⟩ (u2 _)⟩
        · rw [upd_ne (ne_of_none hb nC0)]
          exact bt1 b o nb hb
        · rw [upd_ne CO.symm, hO1, opsW_snoc, List.map_append]
          rfl
        · rw [upd_same, nP_snoc, if_neg (by decide), clos_snoc, List.map_append]
          rfl
        · rw [opN_snoc]
          exact hv1.bt (NT.lst ⟨_, hC1⟩) (u2 _)
    · rintro σ' H4 ⟨v, ops, rfl, ol, bt, hd, hO, hC, hv, hx⟩
      refine ⟨.inl ⟨by decide, by decide⟩, ?_⟩
      exact ⟨_, v, _, ops, rfl, ol, bt, hd, hO, hC, hv, hx⟩
  · rintro σ' H4 ⟨code, v, y, ops, rfl, ol, bt, hd, hO, hC, hv, hx⟩
    have np := nP_le ops
    have lo : (opsW ops).length = 20 := by unfold opsW; rw [List.length_map, ol]
    have lcl : (clos (nP ops)).length = nP ops := List.length_replicate
    obtain ⟨h1, h2, h3, h4⟩ := opN_lf hv0 ops
    have hp4 := bt _ _ pst hp
    clear hO3 hx3 hp3
    have hd0 := hd
    have e12 : cutV xs (some 1) (some 2) = (xs.drop 1).take 1 := cut12 (by have := hx.1; omega)
    refine ⟨1, rfl, 2, rfl, .inl ⟨_, SqL.of hp4, fun S nS => ?_⟩⟩
    rw [e12]
    have sS := same_new (o := .lst ((xs.drop 1).take 1)) nS
    refine ⟨Nat.zero_le _, fun J nJ => ?_⟩
    have sJ := sS.trans (same_new (o := .lst []) nJ)
    refine ⟨S, J, _, [], fun k => c (k + 1), fun _ => true, 1, rfl, same_new nJ _ _ upd_same, upd_same, (hx.cut (by omega)).same sJ, fun k h => absurd h (by omega), by decide, fun k => hc (k + 1), fun H5 I s5 nI hI => ?_⟩
    have s45 := sJ.trans s5
    have hI : H5 I = some (.lst ((w3 (c 1)).map V.str)) := hI
    have hO := s45 _ _ hO
    have hC := s45 _ _ hC
    have hv := hv.same s45
    have hx := hx.same s45
    have hd := hd.new s45
    have bt := bt.trans (Bt.same (st := st) s45)
    have hp4 := s45 _ _ hp4
    have Is : I ≠ st := (hd0.new sJ).ne_new nI
    clear sJ s5 s45 sS nS nJ nI
    have wI : AllW (w3 (c 1)) := w3_w hc 1
    have wZ : AllW (opsW ops ++ w3 (c 1) ++ clos (nP ops)) := ((ops_w ops).app wI).app (clos_w _)
    have l3 : (w3 (c 1)).length = 3 := rfl
    have lz : (opsW ops ++ w3 (c 1) ++ clos (nP ops)).length ≤ 43 := by rw [List.length_append, List.length_append, lo, lcl, l3]; omega
    -- the deep line
    refine .inl ⟨_, _, hO, hI, line_of (by rw [List.length_map, List.length_map, lo, l3]; omega), fun B nB => ?_⟩
    have sB := same_new (o := .lst ((opsW ops).map V.str ++ (w3 (c 1)).map V.str)) nB
    refine .inl ⟨_, _, upd_same, sB _ _ hC, line_of (by rw [List.length_append, List.length_map, List.length_map, List.length_map, lo, l3, lcl]; omega), fun D nD => ?_⟩
    have sD := sB.trans (same_new (o := .lst ((opsW ops).map V.str ++ (w3 (c 1)).map V.str ++ (clos (nP ops)).map V.str)) nD)
    have hD := upd_same (H := upd H5 B (.lst ((opsW ops).map V.str ++ (w3 (c 1)).map V.str))) (a := D) (o := .lst ((opsW ops).map V.str ++ (w3 (c 1)).map V.str ++ (clos (nP ops)).map V.str))
    have Ds : D ≠ st := (hd.new sB).ne_new nD
    generalize upd (upd H5 B _) D _ = H6 at sD hD ⊢
    rw [← List.map_append, ← List.map_append] at hD
    refine ⟨(by show 2 ≤ sizeLine; decide), fun t nt => ?_⟩
    have st6 := same_new (o := .tup [.str "let", v]) nt
    have s6 := sD.trans st6
    refine ⟨st, scr, D, t, _, .ok (opN ops (lf (c 1))), rfl, hd.new s6, st6 _ _ hD, Ds, by omega, wZ.pcl, deep_gives hc ol, ⟨v, upd_same, hv.same s6, by omega⟩, fun H7 b7 hd7 => ?_⟩
    refine ite2 (fun e => nomatch e) (fun _ => ?_)
    have B7 : Bt st H5 H7 := (Bt.same s6).trans b7
    have hO := B7 _ _ Os hO
    have hC := B7 _ _ Cs hC
    have hI := B7 _ _ Is hI
    have hv := hv.bt (NT.lst hd.lst) B7
    have hx := hx.bt hd.lst B7
    have bt := bt.trans B7
    have hp4 := B7 _ _ pst hp4
    clear B7 b7 s6 st6 nt sD hD nD sB nB
    -- not, and
    have hd := hd7
    clear hd7
    refine ⟨(by show 1 ≤ sizeLine; decide), fun N nN => ?_⟩
    have sN := same_new (o := .lst [.str "not"]) nN
    refine ⟨1, rfl, .inl ⟨_, SqL.of (sN _ _ hp4), fun S nS => ?_⟩⟩
    rw [cutV_take _ (by decide), show Int.toNat 1 = 1 from rfl] at *
    have sS1 := same_new (o := .lst (xs.take 1)) nS
    refine ⟨Nat.zero_le _, fun J nJ => ?_⟩
    have sJ1 := same_new (o := .lst []) nJ
    have s7 := (sN.trans sS1).trans sJ1
    refine ⟨S, J, _, [], fun k => c (k + 0), fun _ => true, 1, rfl, sJ1 _ _ upd_same, upd_same, (hx.cut (d := 0) (by omega)).same s7, fun k h => absurd h (by omega), by decide, fun k => hc (k + 0), fun HB M sM nM hM => ?_⟩
    have hM : HB M = some (.lst ((w3 (c 0)).map V.str)) := hM
    have l30 : (w3 (c 0)).length = 3 := rfl
    have hN := sM _ _ (sJ1 _ _ (sS1 _ _ (upd_same (H := H7) (a := N) (o := .lst [.str "not"]))))
    have s8 := s7.trans sM
    have hd := hd.new s8
    have hO := s8 _ _ hO
    have hC := s8 _ _ hC
    have hI := s8 _ _ hI
    have hv := hv.same s8
    have hx := hx.same s8
    have bt := bt.trans (Bt.same (st := st) s8)
    have hp4 := s8 _ _ hp4
    clear s8 sM s7 sJ1 sS1 sN nJ nS nN nM
    refine .inl ⟨_, _, hN, hM, line_of (by rw [List.length_map, l30]; decide), fun A1 n1 => ?_⟩
    have t1 := same_new (o := .lst ([V.str "not"] ++ (w3 (c 0)).map V.str)) n1
    refine ⟨(by show 1 ≤ sizeLine; decide), fun A2 n2' => ?_⟩
    have t2' := same_new (o := .lst [.str "and"]) n2'
    have t2 := t1.trans t2'
    refine .inl ⟨_, _, t2' _ _ upd_same, upd_same, line_of (by rw [List.length_append, List.length_map, l30]; decide), fun A3 n3 => ?_⟩
    have t3 := t2.trans (same_new (o := .lst ([V.str "not"] ++ (w3 (c 0)).map V.str ++ [V.str "and"])) n3)
    refine .inl ⟨_, _, upd_same, t3 _ _ hO, line_of (by simp only [List.length_append, List.length_map, l30, lo]; decide), fun A4 n4 => ?_⟩
    have t4 := t3.trans (same_new (o := .lst ([V.str "not"] ++ (w3 (c 0)).map V.str ++ [V.str "and"] ++ (opsW ops).map V.str)) n4)
    refine .inl ⟨_, _, upd_same, t4 _ _ hI, line_of (by simp only [List.length_append, List.length_map, l30, lo, l3]; decide), fun A5 n5 => ?_⟩
    have t5 := t4.trans (same_new (o := .lst ([V.str "not"] ++ (w3 (c 0)).map V.str ++ [V.str "and"] ++ (opsW ops).map V.str ++ (w3 (c 1)).map V.str)) n5)
    refine .inl ⟨_, _, upd_same, t5 _ _ hC, line_of (by simp only [List.length_append, List.length_map, l30, lo, l3, lcl, List.length_cons, List.length_nil]; omega), fun A6 n6 => ?_⟩
    have t6' := same_new (o := .lst ([V.str "not"] ++ (w3 (c 0)).map V.str ++ [V.str "and"] ++ (opsW ops).map V.str ++ (w3 (c 1)).map V.str ++ (clos (nP ops)).map V.str)) n6
    have t6 := t5.trans t6'
    have hA6 := upd_same (H := upd (upd (upd (upd (upd HB A1 (.lst ([V.str "not"] ++ (w3 (c 0)).map V.str))) A2 (.lst [.str "and"])) A3 (.lst ([V.str "not"] ++ (w3 (c 0)).map V.str ++ [V.str "and"]))) A4 (.lst ([V.str "not"] ++ (w3 (c 0)).map V.str ++ [V.str "and"] ++ (opsW ops).map V.str))) A5 (.lst ([V.str "not"] ++ (w3 (c 0)).map V.str ++ [V.str "and"] ++ (opsW ops).map V.str ++ (w3 (c 1)).map V.str))) (a := A6) (o := .lst ([V.str "not"] ++ (w3 (c 0)).map V.str ++ [V.str "and"] ++ (opsW ops).map V.str ++ (w3 (c 1)).map V.str ++ (clos (nP ops)).map V.str))
    have A6s : A6 ≠ st := (hd.new t5).ne_new n6
    generalize upd _ A6 (.lst ([V.str "not"] ++ (w3 (c 0)).map V.str ++ [V.str "and"] ++ (opsW ops).map V.str ++ (w3 (c 1)).map V.str ++ (clos (nP ops)).map V.str)) = HC at t6 hA6 ⊢
    replace hA6 : HC A6 = some (.lst (((["not"] : List Str) ++ w3 (c 0) ++ (["and"] : List Str) ++ opsW ops ++ w3 (c 1) ++ clos (nP ops)).map V.str)) := by
      rw [hA6, List.map_append, List.map_append, List.map_append, List.map_append, List.map_append]
      rfl
    clear t6' n6 t5 n5 t4 n4 t3 n3 t2 t2' n2' t1 n1 hM hN
    have hd := hd.new t6
    have hO := t6 _ _ hO
    have hC := t6 _ _ hC
    have hI := t6 _ _ hI
    have hv := hv.same t6
    have hx := hx.same t6
    have bt := bt.trans (Bt.same (st := st) t6)
    have hp4 := t6 _ _ hp4
    clear t6
    obtain ⟨a0, ea0, ha0⟩ := hx.2 0 (by omega)
    obtain ⟨k1, k2, k3, k4⟩ := lf_all hc 0
    refine ⟨_, .inl (SqL.of hp4), .ref a0, atI_nat (j := 0) ea0, .ref a0, lf (c 0), rfl, ⟨a0, rfl, ha0⟩, by omega, k2, fun HD u sD hu => ?_⟩
    refine ⟨(by show 3 ≤ sizeLine; decide), fun t1 nt1 => ?_⟩
    have st1 := same_new (o := .tup [.str "and", u, v]) nt1
    refine ⟨(by show 2 ≤ sizeLine; decide), fun t2 nt2 => ?_⟩
    have st2 := same_new (o := .tup [.str "let", .ref t1]) nt2
    have s12 := (sD.trans st1).trans st2
    have zw2 : AllW ((["not"] : List Str) ++ w3 (c 0) ++ (["and"] : List Str) ++ opsW ops ++ w3 (c 1) ++ clos (nP ops)) := (((((AllW.one wok_not).app (w3_w hc 0)).app (AllW.one (wok_wd true))).app (ops_w ops)).app wI).app (clos_w _)
    have zl2 : ((["not"] : List Str) ++ w3 (c 0) ++ (["and"] : List Str) ++ opsW ops ++ w3 (c 1) ++ clos (nP ops)).length ≤ 150 := by
      simp only [List.length_append, lo, l3, l30, lcl, List.length_cons, List.length_nil]
      omega
    refine ⟨st, scr, A6, t2, _, _, rfl, hd.new s12, s12 _ _ hA6, A6s, zl2, zw2.pcl, deep_gives2 hc ol, ⟨.ref t1, upd_same, ⟨t1, u, v, rfl, SqT.of (st2 _ _ upd_same), (hu.same st1).same st2, hv.same s12⟩, ?_⟩, fun HE bE hdE => ?_⟩
    · show max (oppT (lf (c 0))).depth (opN ops (lf (c 1))).depth + 1 ≤ 9
      rw [oppT_depth, k4, h4]
      decide
    refine ite2 (fun e => nomatch e) (fun _ => ?_)
    have BE : Bt st HC HE := (Bt.same s12).trans bE
    have hO := BE _ _ Os hO
    have hC := BE _ _ Cs hC
    have hI := BE _ _ Is hI
    have bt := bt.trans BE
    have hd := hdE
    clear hdE BE bE s12 st2 nt2 st1 nt1 sD hu hA6 A6s zw2 zl2 hv hx hp4
    -- one too many
    refine ⟨(by show 2 ≤ sizeLine; decide), fun L nL => ?_⟩
    have sL := same_new (o := .lst [.str "not", .str "("]) nL
    refine ⟨st, scr, _, rfl, hd.new sL, .inr ⟨L, _, rfl, upd_same, hd.ne_new nL, (by show 0 < 2; decide), (by show 2 ≤ 1000; decide), fun x l2 hx2 hd3 => ?_⟩⟩
    obtain ⟨b, rfl⟩ : ∃ b : Bool, x = .str (opW b) := by
      simp only [List.mem_cons, List.mem_nil_iff, or_false] at hx2
      rcases hx2 with rfl | rfl
      · exact ⟨true, rfl⟩
      · exact ⟨false, rfl⟩
    have BL := (Bt.same (st := st) sL).trans (Bt.st (st := st) (o := .lst l2))
    have hO := BL _ _ Os hO
    have hC := BL _ _ Cs hC
    have hI := BL _ _ Is hI
    have bt := bt.trans BL
    have hd := hd3
    clear hd3 BL sL nL hx2
    generalize upd (upd HE L _) st _ = HF at hd bt hO hC hI ⊢
    refine ⟨(by show 1 ≤ sizeLine; decide), fun A1 n1 => ?_⟩
    have t1 := same_new (o := .lst [.str (opW b)]) n1
    refine .inl ⟨_, _, t1 _ _ hO, upd_same, line_of (by simp only [List.length_append, List.length_map, lo, List.length_cons, List.length_nil]; decide), fun A2 n2' => ?_⟩
    have t2 := t1.trans (same_new (o := .lst ((opsW ops).map V.str ++ [V.str (opW b)])) n2')
    refine .inl ⟨_, _, upd_same, t2 _ _ hI, line_of (by simp only [List.length_append, List.length_map, lo, l3, List.length_cons, List.length_nil]; decide), fun A3 n3 => ?_⟩
    have t3 := t2.trans (same_new (o := .lst ((opsW ops).map V.str ++ [V.str (opW b)] ++ (w3 (c 1)).map V.str)) n3)
    refine .inl ⟨_, _, upd_same, t3 _ _ hC, line_of (by simp only [List.length_append, List.length_map, lo, l3, lcl, List.length_cons, List.length_nil]; omega), fun A4 n4 => ?_⟩
    have t4 := t3.trans (same_new (o := .lst ((opsW ops).map V.str ++ [V.str (opW b)] ++ (w3 (c 1)).map V.str ++ (clos (nP ops)).map V.str)) n4)
    have A4s : A4 ≠ st := (hd.new t3).ne_new n4
    have ez : ((opsW ops).map V.str ++ [V.str (opW b)] ++ (w3 (c 1)).map V.str ++ (clos (nP ops)).map V.str) = (opsW (ops ++ [b]) ++ (w3 (c 1) ++ clos (nP ops))).map V.str := by
      rw [opsW_snoc, List.map_append, List.map_append, List.map_append, List.append_assoc (_ ++ _)]
      rfl
    have zw3 : AllW (opsW (ops ++ [b]) ++ (w3 (c 1) ++ clos (nP ops))) := (ops_w _).app (wI.app (clos_w _))
    have zl3 : (opsW (ops ++ [b]) ++ (w3 (c 1) ++ clos (nP ops))).length = 24 + nP ops := by
      rw [opsW_snoc]
      simp only [List.length_append, lo, l3, lcl, List.length_cons, List.length_nil]
      omega
    refine ⟨st, scr, A4, opsW (ops ++ [b]) ++ (w3 (c 1) ++ clos (nP ops)), 20, rfl, hd.new t4, ?_, A4s, by omega, zw3.pcl, ?_, fun HG bG hdG => ?_⟩
    · rw [← ez]
      exact upd_same
    · rw [Nat.min_eq_left (by omega)]
      exact asks_deep (by rw [List.length_append, ol]; rfl) (wI.app (clos_w _)) (by rw [List.length_append, lcl, l3]; omega)
    refine ite2 (fun e => nomatch e) (fun _ => ?_)
    have BG := (Bt.same (st := st) t4).trans bG
    have hO := BG _ _ Os hO
    have hC := BG _ _ Cs hC
    have hI := BG _ _ Is hI
    have bt := bt.trans BG
    have hd := hdG
    clear hdG BG bG t4 n4 t3 n3 t2 n2' t1 n1 zw3 zl3 ez A4s
    -- one too few
    refine .inl ⟨_, _, hO, hI, line_of (by simp only [List.length_map, lo, l3]; decide), fun A1 n1 => ?_⟩
    have t1 := same_new (o := .lst ((opsW ops).map V.str ++ (w3 (c 1)).map V.str)) n1
    refine ⟨1, rfl, .inl ⟨_, SqL.of (t1 _ _ hC), fun S nS => ?_⟩⟩
    rw [cutV_drop _ (by decide), show Int.toNat 1 = 1 from rfl] at *
    have ed : ((clos (nP ops)).map V.str).drop 1 = (clos (nP ops - 1)).map V.str := by
      rw [← List.map_drop]
      unfold clos
      rw [List.drop_replicate]
    rw [ed] at *
    have lc1 : (clos (nP ops - 1)).length = nP ops - 1 := List.length_replicate
    have t2' := same_new (o := .lst ((clos (nP ops - 1)).map V.str)) nS
    have t2 := t1.trans t2'
    refine .inl ⟨_, _, t2' _ _ upd_same, upd_same, line_of (by simp only [List.length_append, List.length_map, lo, l3, lc1]; omega), fun A2 n2' => ?_⟩
    have t3' := same_new (o := .lst ((opsW ops).map V.str ++ (w3 (c 1)).map V.str ++ (clos (nP ops - 1)).map V.str)) n2'
    have t3 := t2.trans t3'
    refine .inl ⟨_, .inl (SqL.of (t3 _ _ hC)), ?_⟩
    rw [List.length_map, lcl]
    refine ite2 (fun e => ?_) (fun e => ?_)
    · exact q _ (bt.trans (Bt.same t3)) (hd.new t3)
    · have e : ¬ ((nP ops : Nat) : Int) = 0 := of_decide_eq_false (Bool.eq_false_iff.mpr e)
      have zw4 : AllW (opsW ops ++ w3 (c 1) ++ clos (nP ops - 1)) := ((ops_w ops).app wI).app (clos_w _)
      have zl4 : (opsW ops ++ w3 (c 1) ++ clos (nP ops - 1)).length ≤ 43 := by
        simp only [List.length_append, lo, l3, lc1]
        omega
      have A2s : A2 ≠ st := (hd.new t2).ne_new n2'
      have ez : ((opsW ops).map V.str ++ (w3 (c 1)).map V.str ++ (clos (nP ops - 1)).map V.str) = (opsW ops ++ w3 (c 1) ++ clos (nP ops - 1)).map V.str := by
        rw [List.map_append, List.map_append]
      have hA2 := upd_same (H := upd (upd HG A1 (.lst ((opsW ops).map V.str ++ (w3 (c 1)).map V.str))) S (.lst ((clos (nP ops - 1)).map V.str))) (a := A2) (o := .lst ((opsW ops).map V.str ++ (w3 (c 1)).map V.str ++ (clos (nP ops - 1)).map V.str))
      rw [ez] at hA2 t3
      rw [ez]
      generalize upd _ A2 (.lst ((opsW ops ++ w3 (c 1) ++ clos (nP ops - 1)).map V.str)) = HH at t3 hA2 ⊢
      refine .inl ⟨_, .inl (SqL.of hA2), st, scr, A2, opsW ops ++ w3 (c 1) ++ clos (nP ops - 1), (opsW ops ++ w3 (c 1) ++ clos (nP ops - 1)).length, by rw [List.length_map]; rfl, hd.new t3, hA2, A2s, by omega, zw4.pcl, ?_, fun HI bI hdI => ?_⟩
      · rw [Nat.min_self]
        exact asks_open (fl_c hc 1) ol (by omega) wI (by rw [l3]; decide)
      · exact q _ ((bt.trans (Bt.same t3)).trans bI) hdI
end
section
variable {P : Program} {w : World} {K : PySem.W.Frag} {mg : Str → Option Value} {base : Heap}
variable {t_BOUND t_DIGITS t_LETTERS t_LONGEST_INTEGER t_LONGEST_NAME t_MOST_NESTED : Tok} {a_ALWAYS a_MARKS a_NEVER a_OPPOSITES a_RESERVED a_SIGNS a_BadName a_BadNumber a_BadSign a_BadText a_Condition a_ElseputError a_Reader a_TooLarge : Addr}
def spLaw (K : PySem.W.Frag) : Sp := fun vs H Q _ => ∃ (a : Addr) (ns : List Int), vs = [.ref a] ∧ SqL K H a (ns.map V.int) ∧ ns.length ≤ 63 ∧ ∀ H', Q (.bl true) H'
abbrev sp_law := spLaw
theorem len_law {vs : List V} {H : Hp} {Q : VK} {E : XK} (h : sp_law K vs H Q E) : vs.length = 1 := by
  obtain ⟨_, _, rfl, _⟩ := h
  rfl
theorem jw_mem {x : V} (h : x ∈ ([.str "and", .str "or"] : List V)) : ∃ b : Bool, x = .str (wd b) := by
  simp only [List.mem_cons, List.mem_nil_iff, or_false] at h
  rcases h with rfl | rfl
  · exact ⟨true, rfl⟩
  · exact ⟨false, rfl⟩
def cOf (ts : List Tr) (k : Nat) : Cm := ((ts[k]?.map Tr.cs).getD []).headD ("a", "<", 0)
theorem cOf_ok {ts : List Tr} (hg : Gr ts) (h1 : ∀ t ∈ ts, t.cs.length = 1) : COk (cOf ts) := fun k => by
  unfold cOf
  cases e : ts[k]? with
  | none => exact ⟨by decide +kernel, by decide +kernel, by show Bd 0; unfold Bd; decide⟩
  | some t =>
    have m := List.mem_of_getElem? e
    have l := h1 t m
    have ok := (hg t m).2
    cases hcs : t.cs with
    | nil => rw [hcs] at l; cases l
    | cons a r =>
      have := ok a (by rw [hcs]; exact List.mem_cons_self)
      show isName (((some t).map Tr.cs).getD [] |>.headD _).1 = true ∧ _
      simp only [Option.map_some, Option.getD_some, hcs, List.headD_cons]
      exact this
theorem cOf_at {K : PySem.W.Frag} {H : Hp} {xs : List V} {ts : List Tr} (h : TsAt K H xs ts) (hg : Gr ts) (h1 : ∀ t ∈ ts, t.cs.length = 1) : CAt K H xs (cOf ts) ts.length := ⟨h.1, fun k hk => by
  have e : ts[k]? = some ts[k] := List.getElem?_eq_getElem hk
  obtain ⟨v, ev, hv⟩ := h.2 k _ e
  have m := List.mem_of_getElem? e
  have l := h1 _ m
  have pu := (hg _ m).1
  have ec : cOf ts k = (ts[k].cs).headD ("a", "<", 0) := by
    unfold cOf
    rw [e]
    rfl
  rw [ec]
  generalize ts[k] = t at hv l pu ⊢
  cases t with
  | tt => exact pu.elim
  | ff => exact pu.elim
  | cmp f s n =>
    obtain ⟨a, rfl, ha⟩ := hv
    exact ⟨a, ev, ha⟩
  | con w x y =>
    have := pure_depth pu
    have d : (Tr.con w x y).depth = max x.depth y.depth + 1 := rfl
    omega⟩
end
section
variable {P : Program} {w : World} {K : PySem.W.Frag} {mg : Str → Option Value} {base : Heap}
variable {t_BOUND t_DIGITS t_LETTERS t_LONGEST_INTEGER t_LONGEST_NAME t_MOST_NESTED : Tok} {a_ALWAYS a_MARKS a_NEVER a_OPPOSITES a_RESERVED a_SIGNS a_BadName a_BadNumber a_BadSign a_BadText a_Condition a_ElseputError a_Reader a_TooLarge : Addr}
def jOf (js : List Bool) (k : Nat) : Bool := (js[k]?).getD true
theorem jOf_at {js : List Bool} {n : Nat} (h : n ≤ js.length + 1) : JAt (js.map fun b => V.str (wd b)) (jOf js) n := fun k hk => by
  have e : js[k]? = some js[k] := List.getElem?_eq_getElem (by omega)
  unfold jOf
  rw [List.getElem?_map, e]
  rfl
theorem asks_end {c : Nat → Cm} {j : Nat → Bool} (hc : COk c) {i : Nat} (hi : i ≤ 40) : Asks (cp c j i) (4 * i) := by
  have := asks_tl (j := j) hc (i := i) (a := 0) (by decide) (tl := []) (by show AllW (cp c j i ++ []); rw [List.append_nil]; exact cp_w hc j i) (by show (cp c j i ++ []).length ≤ _; rw [List.append_nil, cp_len]; omega) (bad_nil 0)
  have e : cp c j i ++ ((w3 (c i)).take 0 ++ []) = cp c j i := List.append_nil _
  rw [e] at this
  exact this
theorem asks_notor {c : Nat → Cm} {j : Nat → Bool} (hc : COk c) {i : Nat} (hi : i ≤ 40) : Asks (cp c j i ++ (["not", "or"] : List Str)) (4 * i + 1) := by
  refine asks_E hc ((cp_w hc j i).app (.cons wok_not (.one (wok_wd false)))) (by rw [List.length_append, cp_len]; show 4 * i + 2 ≤ _; omega) fun toks R => ?_
  have h0 : tokAt toks (4 * i) = ("not" : Str).cps.toList := (R.1 _).trans (tk_some (get_tail (rest := (["not", "or"] : List Str)) 0))
  have h1 : tokAt toks (4 * i + 1) = ("or" : Str).cps.toList := (R.1 _).trans (tk_some (get_tail (rest := (["not", "or"] : List Str)) 1))
  unfold FinE
  show facP toks (19 + 1) (4 * i) = _
  unfold facP
  rw [if_pos h0, fac_bas (by rw [h1]; decide +kernel) (by rw [h1]; decide +kernel)]
  unfold basP
  rw [if_neg (by rw [h1]; decide +kernel), if_neg (by rw [h1]; decide +kernel), if_neg (by rw [h1]; decide +kernel)]
  rfl
theorem laid_nil : Laid [] [] "" := ⟨0, 0, [], rfl, rfl, True.intro, rfl, by decide⟩
theorem ok_law {f : Addr} {fd : FuncData} {f__law_state : Addr} {fd__law_state : FuncData} {f__law_names : Addr} {fd__law_names : FuncData} {f__law_leaves : Addr} {fd__law_leaves : FuncData} {f__law_deep : Addr} {fd__law_deep : FuncData} {f__law_pick : Addr} {fd__law_pick : FuncData} {f__law_draw : Addr} {fd__law_draw : FuncData} {f__law_spoils : Addr} {fd__law_spoils : FuncData} {f__law_chain : Addr} {fd__law_chain : FuncData} {f__law_lets : Addr} {fd__law_lets : FuncData} {f__law_asks : Addr} {fd__law_asks : FuncData} {f__law_same : Addr} {fd__law_same : FuncData} {f__law_chain_due : Addr} {fd__law_chain_due : FuncData} {f__law_read_it : Addr} {fd__law_read_it : FuncData} (F : Fun K "law" "law" s_law f fd) (T : Gs K mg t_BOUND t_DIGITS t_LETTERS t_LONGEST_INTEGER t_LONGEST_NAME t_MOST_NESTED a_ALWAYS a_MARKS a_NEVER a_OPPOSITES a_RESERVED a_SIGNS a_BadName a_BadNumber a_BadSign a_BadText a_Condition a_ElseputError a_Reader a_TooLarge) (c__law_state : Cal P w K mg base CX0 1 "_law_state" f__law_state fd__law_state ["_law_script"] (sp__law_state K)) (c__law_names : Cal P w K mg base CX0 2 "_law_names" f__law_names fd__law_names ["_law_state_here", "_law_many"] (sp__law_names K)) (c__law_leaves : Cal P w K mg base CX0 4 "_law_leaves" f__law_leaves fd__law_leaves ["_law_state_here", "_law_fields", "_law_many"] (sp__law_leaves K)) (c__law_deep : Cal P w K mg base CX0 86 "_law_deep" f__law_deep fd__law_deep ["_law_state_here", "_law_comps"] (sp__law_deep K)) (c__law_pick : Cal P w K mg base CX0 2 "_law_pick" f__law_pick fd__law_pick ["_law_state_here", "_law_row"] (sp__law_pick K)) (c__law_draw : Cal P w K mg base CX0 1 "_law_draw" f__law_draw fd__law_draw ["_law_state_here", "_law_many"] (sp__law_draw K)) (c__law_spoils : Cal P w K mg base CX0 86 "_law_spoils" f__law_spoils fd__law_spoils ["_law_state_here", "_law_words", "_law_i"] (sp__law_spoils K)) (c__law_chain : Cal P w K mg base CX0 1 "_law_chain" f__law_chain fd__law_chain ["_law_comps", "_law_joiners"] (sp__law_chain K)) (c__law_lets : Cal P w K mg base CX0 85 "_law_lets" f__law_lets fd__law_lets ["_law_state_here", "_law_words", "_law_due"] (sp__law_lets K)) (c__law_asks : Cal P w K mg base CX0 85 "_law_asks" f__law_asks fd__law_asks ["_law_state_here", "_law_words", "_law_at"] (sp__law_asks K)) (c__law_same : Cal P w K mg base CX0 26 "_law_same" f__law_same fd__law_same ["_law_actual", "_law_due"] (sp__law_same K)) (c__law_chain_due : Cal P w K mg base CX0 1 "_law_chain_due" f__law_chain_due fd__law_chain_due ["_law_comps", "_law_joiners"] (sp__law_chain_due K)) (c__law_read_it : Cal P w K mg base CX0 84 "_law_read_it" f__law_read_it fd__law_read_it ["_law_line"] (sp__law_read_it K)) : FnOk P w K mg base CX0 95 f fd ["_law_script"] (sp_law K) := by
  refine F.ok sc_law (fun vs H Q E h => len_law h) (fun cdv A outer s H vs Q E hr h => ?_)
  obtain ⟨s0, ns0, rfl, hS, hl, q⟩ := h
  refine ⟨_, (pss_cons (ps_set (i := 1) sc_law.nd rfl (.inr rfl) (pe_call c__law_state.G (hr.mono (by first | decide | omega)) rfl c__law_state.m c__law_state.kp c__law_state.b .nil pass0 (pa_cons (v_ 0) pa_nil))) (pss_cons (ps_set (i := 2) sc_law.nd rfl (.inl rfl) (pe_call c__law_names.G (hr.mono (by first | decide | omega)) rfl c__law_names.m c__law_names.kp c__law_names.b .nil pass0 (pa_cons (v_ 1) (pa_cons pe_int pa_nil)))) (pss_cons (ps_set (i := 3) sc_law.nd rfl (.inl rfl) (pe_call c__law_leaves.G (hr.mono (by first | decide | omega)) rfl c__law_leaves.m c__law_leaves.kp c__law_leaves.b .nil pass0 (pa_cons (v_ 1) (pa_cons (v_ 2) (pa_cons pe_int pa_nil))))) (pss_cons (ps_setLc (i := 4) (own := [("_law_k", 8)]) (g := gName 8) (by rfl) sc_law.nd rfl rfl (sw_true rfl rfl rfl (by decide +kernel)) (pi_range1 rfl T.z_range (pa_cons pe_int pa_nil)) (blkOk_by (N := ["_law_script", "_law_state_here", "_law_fields", "_law_comps", "_law_joiners", "_law_many", "_law_size", "_law_words", "_law_k"]) (sc := defScope s_law) (by decide +kernel)) (fun _ _ _ _ _ => pg_name (i := 8) sc_law.nd rfl (Or.inl rfl)) (fun _ _ _ _ _ => pts_nil) (fun _ _ _ _ _ => (pe_call c__law_pick.G (hr.mono (by first | decide | omega)) rfl c__law_pick.m c__law_pick.kp c__law_pick.b .nil pass0 (pa_cons (v_ 1) (pa_cons (pe_lst (pa_cons pe_str (pa_cons pe_str pa_nil))) pa_nil))))) (pss_cons (ps_set (i := 5) sc_law.nd rfl (.inl rfl) (pe_op op_subM pe_int (pe_call c__law_draw.G (hr.mono (by first | decide | omega)) rfl c__law_draw.m c__law_draw.kp c__law_draw.b .nil pass0 (pa_cons (v_ 1) (pa_cons pe_int pa_nil))))) (pss_cons (ps_for PassesOwn.never rfl (pi_list (pe_lst (pa_cons (v_ 5) (pa_cons pe_int (pa_cons pe_int (pa_cons pe_int pa_nil)))))) (pg_name (i := 6) sc_law.nd rfl (.inl rfl)) (pss_one (ps_if (pt_not (pt_t K (pe_call c__law_lets.G (hr.mono (by first | decide | omega)) rfl c__law_lets.m c__law_lets.kp c__law_lets.b .nil pass0 (pa_cons (v_ 1) (pa_cons (pe_call c__law_chain.G (hr.mono (by first | decide | omega)) rfl c__law_chain.m c__law_chain.kp c__law_chain.b .nil pass0 (pa_cons (pe_slice (slK K) (v_ 3) po_none (po_some (v_ 6))) (pa_cons (v_ 4) pa_nil))) (pa_cons (pe_call c__law_chain_due.G (hr.mono (by first | decide | omega)) rfl c__law_chain_due.m c__law_chain_due.kp c__law_chain_due.b .nil pass0 (pa_cons (pe_slice (slK K) (v_ 3) po_none (po_some (v_ 6))) (pa_cons (v_ 4) pa_nil))) pa_nil)))))) (pss_one (ps_ret pe_bl)) pss_nil))) (pss_cons (ps_if (pt_not (pt_t K (pe_call c__law_spoils.G (hr.mono (by first | decide | omega)) rfl c__law_spoils.m c__law_spoils.kp c__law_spoils.b .nil pass0 (pa_cons (v_ 1) (pa_cons (pe_call c__law_chain.G (hr.mono (by first | decide | omega)) rfl c__law_chain.m c__law_chain.kp c__law_chain.b .nil pass0 (pa_cons (pe_slice (slK K) (v_ 3) po_none (po_some (v_ 5))) (pa_cons (v_ 4) pa_nil))) (pa_cons (pe_call c__law_draw.G (hr.mono (by first | decide | omega)) rfl c__law_draw.m c__law_draw.kp c__law_draw.b .nil pass0 (pa_cons (v_ 1) (pa_cons (v_ 5) pa_nil))) pa_nil)))))) (pss_one (ps_ret pe_bl)) pss_nil) (pss_cons (ps_set (i := 7) sc_law.nd rfl (.inl rfl) (pe_op (addK K) (pe_call c__law_chain.G (hr.mono (by first | decide | omega)) rfl c__law_chain.m c__law_chain.kp c__law_chain.b .nil pass0 (pa_cons (v_ 3) (pa_cons (v_ 4) pa_nil))) (pe_lst (pa_cons pe_str pa_nil)))) (pss_cons (ps_if (PW.pt (pw_or (pt_not (pt_t K (pe_call c__law_asks.G (hr.mono (by first | decide | omega)) rfl c__law_asks.m c__law_asks.kp c__law_asks.b .nil pass0 (pa_cons (v_ 1) (pa_cons (v_ 7) (pa_cons (pe_callB (lenK K) (by rfl) T.z_len PySem.boot_len (pa_cons (v_ 7) pa_nil)) pa_nil)))))) (pw_or1 (pt_not (pt_t K (pe_call c__law_asks.G (hr.mono (by first | decide | omega)) rfl c__law_asks.m c__law_asks.kp c__law_asks.b .nil pass0 (pa_cons (v_ 1) (pa_cons (pe_op (addK K) (v_ 7) (pe_lst (pa_cons pe_str (pa_cons pe_str pa_nil)))) (pa_cons (pe_op (addK K) (pe_callB (lenK K) (by rfl) T.z_len PySem.boot_len (pa_cons (v_ 7) pa_nil)) pe_int) pa_nil))))))))) (pss_one (ps_ret pe_bl)) pss_nil) (pss_cons (ps_if (PW.pt (pw_or (pt_not (pt_t K (pe_call c__law_same.G (hr.mono (by first | decide | omega)) rfl c__law_same.m c__law_same.kp c__law_same.b .nil pass0 (pa_cons (pe_call c__law_read_it.G (hr.mono (by first | decide | omega)) rfl c__law_read_it.m c__law_read_it.kp c__law_read_it.b .nil pass0 (pa_cons pe_str pa_nil)) (pa_cons (pe_tup (pa_cons pe_str (pa_cons pe_int (pa_cons pe_int pa_nil)))) pa_nil))))) (pw_or1 (pt_not (pt_t K (pe_call c__law_asks.G (hr.mono (by first | decide | omega)) rfl c__law_asks.m c__law_asks.kp c__law_asks.b .nil pass0 (pa_cons (v_ 1) (pa_cons (pe_lst pa_nil) (pa_cons pe_int pa_nil))))))))) (pss_one (ps_ret pe_bl)) pss_nil) (pss_one (ps_ret (pe_call c__law_deep.G (hr.mono (by first | decide | omega)) rfl c__law_deep.m c__law_deep.kp c__law_deep.b .nil pass0 (pa_cons (v_ 1) (pa_cons (v_ 3) pa_nil))))))))))))))), ?_⟩
  refine ⟨s0, ns0, rfl, hS, hl, fun H1 st scr sm fs fc hd => ?_⟩
  refine ⟨st, scr, 3, rfl, hd, by decide, fun H2 N zs b2 hd2 nN hN zl zn znd => ?_⟩
  have Ns : N ≠ st := hd.ne_new nN
  have zn' : ∀ z ∈ zs, isName z = true := fun z hz => (zn z hz).1
  refine ⟨st, scr, N, zs, 10, rfl, hd2, hN, Ns, by omega, by omega, zn', by decide, fun H3 D xs ts b3 hd3 nD hD hts hg h1 hlen => ?_⟩
  have Ds : D ≠ st := hd2.ne_new nD
  have hc := cOf_ok hg h1
  have hx := cOf_at hts hg h1
  rw [hlen] at hx
  generalize cOf ts = c at hc hx
  clear b2 hd sm nN znd hd2 hN b3 nD hts hg h1 hlen
  refine ⟨9, rfl, by decide, by decide, fun J nJ => ?_⟩
  have Js : J ≠ st := hd3.ne_new nJ
  have Jc : J ≠ scr := hd3.ne_scr nJ
  refine lc_it walk_range (fun i H' => Bt st H3 H' ∧ DrAt H' st scr ∧ ∃ js : List Bool, H' J = some (.lst (js.map fun b => V.str (wd b))) ∧ js.length = i) ⟨Bt.same (same_new nJ), hd3.new (same_new nJ), [], upd_same, rfl⟩ (fun _ _ _ _ => True.intro) ?_ ?_
  · rintro i v H4 H5 hi ⟨b4, hd4, js, hJ, jl⟩ ⟨rfl, rfl⟩
    refine ⟨rfl, ?_⟩
    refine ⟨(by show 2 ≤ sizeLine; decide), fun L nL => ?_⟩
    have sL := same_new (o := .lst [.str "and", .str "or"]) nL
    refine ⟨st, scr, _, rfl, hd4.new sL, .inr ⟨L, _, rfl, upd_same, hd4.ne_new nL, (by show 0 < 2; decide), (by show 2 ≤ 1000; decide), fun x l2 hx2 hd5 => ?_⟩⟩
    obtain ⟨b, rfl⟩ := jw_mem hx2
    have BL := (Bt.same (st := st) sL).trans (Bt.st (st := st) (o := .lst l2))
    have hJ2 := BL _ _ Js hJ
    refine ⟨_, hJ2, line_lt (by rw [List.length_map, jl]; omega), fun a o na ha => ?_, hd5.at Js Jc, js ++ [b], ?_, by rw [List.length_append, jl]; rfl⟩
    · rw [upd_ne (ne_of_none ha nJ)]
      exact BL _ _ na (b4 _ _ na ha)
    · rw [upd_same, List.map_append]
      rfl
  rintro H4 ⟨b4, hd4, js, hJ, jl⟩
  have hx4 := hx.bt hd3.lst b4
  have hD4 := b4 _ _ Ds hD
  have jt : jOf js 9 = true := by
    unfold jOf
    rw [List.getElem?_eq_none (by omega)]
    rfl
  have hja : ∀ n, n ≤ 10 → JAt (js.map fun b => V.str (wd b)) (jOf js) n := fun n hn => jOf_at (by omega)
  generalize jOf js = j at jt hja
  refine ⟨st, scr, _, rfl, hd4, by decide, many_small (by decide) (by decide), fun r l r0 r1 hd5 => ?_⟩
  have b5 : Bt st H4 (upd H4 st (.lst l)) := Bt.st
  have hx5 := hx4.bt hd4.lst b5
  have hD5 := b5 _ _ Ds hD4
  have hJ5 := b5 _ _ Js hJ
  generalize upd H4 st (.lst l) = H5 at hd5 hx5 hD5 hJ5 b5 ⊢
  refine ⟨(by show 4 ≤ sizeLine; decide), fun Z nZ => ?_⟩
  have sZ := same_new (o := .lst [.int (5 - r), .int 8, .int 9, .int 10]) nZ
  have hZ := upd_same (H := H5) (a := Z) (o := .lst [.int (5 - r), .int 8, .int 9, .int 10])
  have Zs := hd5.ne_new nZ
  have hd6 := hd5.new sZ
  have hx6 := hx5.same sZ
  have hD6 := sZ _ _ hD5
  have hJ6 := sZ _ _ hJ5
  generalize upd H5 Z _ = H6 at sZ hZ hd6 hx6 hD6 hJ6 ⊢
  clear hx hD hJ hx4 hD4 b4 hd4 hd3 hx5 hD5 hJ5 sZ nZ hd5 b5
  have chain : ∀ (H7 : Hp) (hd7 : DrAt H7 st scr) (hx7 : CAt K H7 xs c 10) (n : Nat), n ≤ 10 → ∀ (S : Addr), H7 S = none → CAt K (upd H7 S (.lst (xs.take n))) (xs.take n) c n := fun H7 hd7 hx7 n hn S nS => (hx7.cut (d := 0) (m := n) (by omega)).same (same_new nS)
  refine ⟨Z, rfl, ⟨_, SqL.of hZ⟩, ?_⟩
  refine for_list (K := K) (a := Z) (xs := [.int (5 - r), .int 8, .int 9, .int 10]) (fun i σ' H' => (∃ y : Option V, σ' = [some (.ref s0), some (.ref st), some (.ref N), some (.ref D), some (.ref J), some (.int (5 - r)), y, none, none]) ∧ Bt st H6 H' ∧ DrAt H' st scr) ⟨⟨_, rfl⟩, Bt.refl _ _, hd6⟩ (fun i σ' H' hi h => SqL.of (h.2.1 _ _ Zs hZ)) ?_ ?_
  · rintro i v σ' H7 hi ⟨⟨y, rfl⟩, b7, hd7⟩
    obtain ⟨k, rfl, hk⟩ : ∃ k : Nat, v = .int ((k + 1 : Nat) : Int) ∧ k ≤ 9 := by
      match i, hi with
      | 0, hi => cases hi; exact ⟨(4 - r).toNat, by congr 1; omega, by omega⟩
      | 1, hi => cases hi; exact ⟨7, rfl, by decide⟩
      | 2, hi => cases hi; exact ⟨8, rfl, by decide⟩
      | 3, hi => cases hi; exact ⟨9, rfl, by decide⟩
    have hx7 := hx6.bt hd6.lst b7
    have hD7 := b7 _ _ Ds hD6
    have hJ7 := b7 _ _ Js hJ6
    refine ⟨((k + 1 : Nat) : Int), rfl, .inl ⟨_, SqL.of hD7, fun S nS => ?_⟩⟩
    rw [cutV_take _ (by omega), show (((k + 1 : Nat) : Int)).toNat = k + 1 by omega]
    have sS := same_new (o := .lst (xs.take (k + 1))) nS
    refine ⟨S, J, _, _, c, j, k + 1, rfl, upd_same, sS _ _ hJ7, chain H7 hd7 hx7 (k + 1) (by omega) S nS, hja _ (by omega), by omega, hc, fun H8 L s8 nL hL => ?_⟩
    have s78 := sS.trans s8
    have Ls : L ≠ st := (hd7.new sS).ne_new nL
    have hx8 := hx7.same s78
    have hd8 := hd7.new s78
    refine ⟨((k + 1 : Nat) : Int), rfl, .inl ⟨_, SqL.of (s78 _ _ hD7), fun S2 nS2 => ?_⟩⟩
    rw [cutV_take _ (by omega), show (((k + 1 : Nat) : Int)).toNat = k + 1 by omega]
    have sS2 := same_new (o := .lst (xs.take (k + 1))) nS2
    refine ⟨S2, J, _, _, c, j, k, rfl, upd_same, sS2 _ _ (s78 _ _ hJ7), chain H8 hd8 hx8 (k + 1) (by omega) S2 nS2, hja _ (by omega), by omega, hc, fun H9 t s9 ho => ?_⟩
    have s89 := sS2.trans s9
    refine ⟨st, scr, L, t, cw c j (k + 1), _, rfl, hd8.new s89, s89 _ _ hL, Ls, by rw [cw_len]; omega, (cw_w hc j _).pcl, gives_ch hc (by omega), ho, fun HA bA hdA => ?_⟩
    refine ite2 (fun e => nomatch e) (fun _ => ?_)
    exact ⟨⟨_, rfl⟩, ((b7.trans (.same s78)).trans (.same s89)).trans bA, hdA⟩
  rintro σ' H7 ⟨⟨y, rfl⟩, b7, hd7⟩
  have hx7 := hx6.bt hd6.lst b7
  have hD7 := b7 _ _ Ds hD6
  have hJ7 := b7 _ _ Js hJ6
  clear hx6 hD6 hJ6 b7 hd6 hZ Zs
  -- spoiled lines
  obtain ⟨m, hm, hm5⟩ : ∃ m : Nat, (5 - r : Int) = ((m + 1 : Nat) : Int) ∧ m ≤ 4 := ⟨(4 - r).toNat, by omega, by omega⟩
  rw [hm]
  refine ⟨((m + 1 : Nat) : Int), rfl, .inl ⟨_, SqL.of hD7, fun S nS => ?_⟩⟩
  rw [cutV_take _ (by omega), show (((m + 1 : Nat) : Int)).toNat = m + 1 by omega]
  have sS := same_new (o := .lst (xs.take (m + 1))) nS
  refine ⟨S, J, _, _, c, j, m + 1, rfl, upd_same, sS _ _ hJ7, chain H7 hd7 hx7 (m + 1) (by omega) S nS, hja _ (by omega), by omega, hc, fun H8 L s8 nL hL => ?_⟩
  have s78 := sS.trans s8
  have Ls : L ≠ st := (hd7.new sS).ne_new nL
  have hd8 := hd7.new s78
  refine ⟨st, scr, _, rfl, hd8, by omega, many_small (by omega) (by omega), fun r2 l2 r20 r21 hd9 => ?_⟩
  have b9 := (Bt.same (st := st) s78).trans (Bt.st (st := st) (o := .lst l2))
  have hL9 : upd H8 st (.lst l2) L = some (.lst ((cw c j (m + 1)).map V.str)) := by rw [upd_ne Ls]; exact hL
  generalize upd H8 st (.lst l2) = H9 at hd9 b9 hL9 ⊢
  refine ⟨st, scr, L, c, j, m + 1, r2.toNat, by rw [show ((r2.toNat : Nat) : Int) = r2 by omega]; rfl, hd9, hL9, Ls, hc, by omega, by omega, fun HA bA hdA => ?_⟩
  refine ite2 (fun e => nomatch e) (fun _ => ?_)
  have bB := b9.trans bA
  have hx := hx7.bt hd7.lst bB
  have hD := bB _ _ Ds hD7
  have hJ := bB _ _ Js hJ7
  clear hx7 hD7 hJ7 hd7 b9 bA bB hd9 hL9 hd8 s78 s8 sS nS nL hL Ls
  -- the whole chain, and a word behind it
  refine ⟨D, J, _, _, c, j, 10, rfl, hD, hJ, hx, hja _ (by decide), by decide, hc, fun HB M sM nM hM => ?_⟩
  refine ⟨(by show 1 ≤ sizeLine; decide), fun A nA => ?_⟩
  have sA := same_new (o := .lst [.str "and"]) nA
  have lM : (cw c j 10).length = 39 := cw_len c j 9
  refine .inl ⟨_, _, sA _ _ hM, upd_same, line_of (by rw [List.length_map, lM]; decide), fun W nW => ?_⟩
  have sAW := (sM.trans sA).trans (same_new (o := .lst ((cw c j 10).map V.str ++ [V.str "and"])) nW)
  have Ws : W ≠ st := (hdA.new (sM.trans sA)).ne_new nW
  have hW := upd_same (H := upd HB A (.lst [.str "and"])) (a := W) (o := .lst ((cw c j 10).map V.str ++ [V.str "and"]))
  have ew : (cw c j 10).map V.str ++ [V.str "and"] = (cp c j 10).map V.str := by
    rw [← cw_cp (by decide : 0 < 10), show j (10 - 1) = true from jt, List.map_append]
    rfl
  rw [ew] at hW sAW ⊢
  generalize upd _ W (.lst ((cp c j 10).map V.str)) = HC at hW sAW ⊢
  have hd := hdA.new sAW
  have hx := hx.same sAW
  have hD := sAW _ _ hD
  have lc40 : (cp c j 10).length = 40 := cp_len c j 10
  clear sAW nW sA nA sM nM hM hJ hdA
  refine .inl ⟨_, .inl (SqL.of hW), st, scr, W, cp c j 10, (cp c j 10).length, by rw [List.length_map]; rfl, hd, hW, Ws, by omega, (cp_w hc j 10).pcl, by rw [Nat.min_self, lc40]; exact asks_end hc (by decide), fun HD bD hdD => ?_⟩
  refine ite2 (fun e => nomatch e) (fun _ => ?_)
  have hW := bD _ _ Ws hW
  have hx := hx.bt hd.lst bD
  have hD := bD _ _ Ds hD
  clear bD hd
  refine ⟨(by show 2 ≤ sizeLine; decide), fun A nA => ?_⟩
  have sA := same_new (o := .lst [.str "not", .str "or"]) nA
  refine .inl ⟨_, _, sA _ _ hW, upd_same, line_of (by rw [List.length_map, lc40]; decide), fun W2 nW2 => ?_⟩
  have sW := sA.trans (same_new (o := .lst ((cp c j 10).map V.str ++ [V.str "not", V.str "or"])) nW2)
  have W2s : W2 ≠ st := (hdD.new sA).ne_new nW2
  have ez : (cp c j 10).map V.str ++ [V.str "not", V.str "or"] = (cp c j 10 ++ (["not", "or"] : List Str)).map V.str := by
    rw [List.map_append]
    rfl
  have lz : (cp c j 10 ++ (["not", "or"] : List Str)).length = 42 := by
    rw [List.length_append, lc40]
    rfl
  refine .inl ⟨_, .inl (SqL.of (sW _ _ hW)), st, scr, W2, cp c j 10 ++ (["not", "or"] : List Str), 41, by rw [List.length_map, lc40]; rfl, hdD.new sW, by rw [← ez]; exact upd_same, W2s, by omega, AllW.pcl ((cp_w hc j 10).app (.cons wok_not (.one (wok_wd false)))), by rw [lz]; exact asks_notor hc (i := 10) (by decide), fun HE bE hdE => ?_⟩
  refine ite2 (fun e => nomatch e) (fun _ => ?_)
  have BE := (Bt.same (st := st) sW).trans bE
  have hx := hx.bt hdD.lst BE
  have hD := BE _ _ Ds hD
  clear BE bE sW sA nA nW2 hW hdD
  -- nothing
  have a0 : Asks [] 0 := asks_end (j := j) hc (i := 0) (by decide)
  obtain ⟨pre, out⟩ := a0 _ _ laid_nil
  refine ⟨"", rfl, pre, fun HF t sF ho => ?_⟩
  rw [out] at ho
  refine ⟨(by show 3 ≤ sizeLine; decide), fun u nu => ?_⟩
  have su := same_new (o := .tup [.str "bad", .int 1, .int 1]) nu
  refine ⟨_, _, rfl, outv_same (o := .bad 1) (OutV.same (o := .bad 1) ho su) upd_same, ?_⟩
  refine ite2 (fun e => nomatch e) (fun _ => ?_)
  have sFu := sF.trans su
  refine ⟨Nat.zero_le _, fun E0' nE => ?_⟩
  have sE := sFu.trans (same_new (o := .lst []) nE)
  refine ⟨st, scr, E0', [], 0, rfl, hdE.new sE, upd_same, (hdE.new sFu).ne_new nE, by decide, fun z h => (nomatch h), a0, fun HG bG hdG => ?_⟩
  refine ite2 (fun e => nomatch e) (fun _ => ?_)
  have BG := (Bt.same (st := st) sE).trans bG
  exact ⟨st, scr, D, xs, c, 10, rfl, hdG, BG _ _ Ds hD, Ds, hx.bt hdE.lst BG, hc, by decide, by decide, fun H' b hd' => q _⟩
end
theorem all_mk {l : PySem.W.OpenLaw} {w : World} {K : PySem.W.Frag} {h : Heap} {mg : Str → Option Value} {fa : Addr} {t_BOUND t_DIGITS t_LETTERS t_LONGEST_INTEGER t_LONGEST_NAME t_MOST_NESTED : Tok} {a_ALWAYS a_MARKS a_NEVER a_OPPOSITES a_RESERVED a_SIGNS a_BadName a_BadNumber a_BadSign a_BadText a_Condition a_ElseputError a_Reader a_TooLarge : Addr} {u_Condition_MOST : Tok} {f_is_name f_run_end f_token_end f_split_line f_in_bound f_check_name f_check_number f_is_integer f_comparisons f_joined_tree f_Condition___init__ f_joined f_opposite f_Reader_at_end f_Reader_ahead f_Reader_skip f_Reader__refuse f_Reader__take_if f_Reader_take_one f_Reader_take_name f_Reader_take_integer f_parse_factor f_parse_conjunction f_parse_condition f_Condition___and__ f_Condition___or__ f_join_all f_Condition___invert__ f_build_condition f__law_state f__law_draw f__law_pick f__law_number f__law_constant f__law_names f__law_is_int f__law_same f__law_joined f__law_leaves f__law_opposite f_Reader___init__ f_Reader_take_end f_Condition_read f__law_read_it f__law_chain f__law_chain_due f__law_unfit f__law_asks f__law_lets f__law_spoils f__law_deep f_law f_Condition_always f_Condition_never f_Condition_compare : Addr} {od_is_name an_is_name : Option Addr} {sl_is_name : Array (Option Value)} {oc_is_name kV_is_name dc_is_name pm_is_name cd_is_name ct_is_name : Value} {od_run_end an_run_end : Option Addr} {sl_run_end : Array (Option Value)} {oc_run_end kV_run_end dc_run_end pm_run_end cd_run_end ct_run_end : Value} {od_token_end an_token_end : Option Addr} {sl_token_end : Array (Option Value)} {oc_token_end kV_token_end dc_token_end pm_token_end cd_token_end ct_token_end : Value} {od_split_line an_split_line : Option Addr} {sl_split_line : Array (Option Value)} {oc_split_line kV_split_line dc_split_line pm_split_line cd_split_line ct_split_line : Value} {od_in_bound an_in_bound : Option Addr} {sl_in_bound : Array (Option Value)} {oc_in_bound kV_in_bound dc_in_bound pm_in_bound cd_in_bound ct_in_bound : Value} {od_check_name an_check_name : Option Addr} {sl_check_name : Array (Option Value)} {oc_check_name kV_check_name dc_check_name pm_check_name cd_check_name ct_check_name : Value} {od_check_number an_check_number : Option Addr} {sl_check_number : Array (Option Value)} {oc_check_number kV_check_number dc_check_number pm_check_number cd_check_number ct_check_number : Value} {od_is_integer an_is_integer : Option Addr} {sl_is_integer : Array (Option Value)} {oc_is_integer kV_is_integer dc_is_integer pm_is_integer cd_is_integer ct_is_integer : Value} {od_comparisons an_comparisons : Option Addr} {sl_comparisons : Array (Option Value)} {oc_comparisons kV_comparisons dc_comparisons pm_comparisons cd_comparisons ct_comparisons : Value} {od_joined_tree an_joined_tree : Option Addr} {sl_joined_tree : Array (Option Value)} {oc_joined_tree kV_joined_tree dc_joined_tree pm_joined_tree cd_joined_tree ct_joined_tree : Value} {od_Condition___init__ an_Condition___init__ : Option Addr} {sl_Condition___init__ : Array (Option Value)} {oc_Condition___init__ kV_Condition___init__ dc_Condition___init__ pm_Condition___init__ cd_Condition___init__ ct_Condition___init__ : Value} {od_joined an_joined : Option Addr} {sl_joined : Array (Option Value)} {oc_joined kV_joined dc_joined pm_joined cd_joined ct_joined : Value} {od_opposite an_opposite : Option Addr} {sl_opposite : Array (Option Value)} {oc_opposite kV_opposite dc_opposite pm_opposite cd_opposite ct_opposite : Value} {od_Reader_at_end an_Reader_at_end : Option Addr} {sl_Reader_at_end : Array (Option Value)} {oc_Reader_at_end kV_Reader_at_end dc_Reader_at_end pm_Reader_at_end cd_Reader_at_end ct_Reader_at_end : Value} {od_Reader_ahead an_Reader_ahead : Option Addr} {sl_Reader_ahead : Array (Option Value)} {oc_Reader_ahead kV_Reader_ahead dc_Reader_ahead pm_Reader_ahead cd_Reader_ahead ct_Reader_ahead : Value} {od_Reader_skip an_Reader_skip : Option Addr} {sl_Reader_skip : Array (Option Value)} {oc_Reader_skip kV_Reader_skip dc_Reader_skip pm_Reader_skip cd_Reader_skip ct_Reader_skip : Value} {od_Reader__refuse an_Reader__refuse : Option Addr} {sl_Reader__refuse : Array (Option Value)} {oc_Reader__refuse kV_Reader__refuse dc_Reader__refuse pm_Reader__refuse cd_Reader__refuse ct_Reader__refuse : Value} {od_Reader__take_if an_Reader__take_if : Option Addr} {sl_Reader__take_if : Array (Option Value)} {oc_Reader__take_if kV_Reader__take_if dc_Reader__take_if pm_Reader__take_if cd_Reader__take_if ct_Reader__take_if : Value} {od_Reader_take_one an_Reader_take_one : Option Addr} {sl_Reader_take_one : Array (Option Value)} {oc_Reader_take_one kV_Reader_take_one dc_Reader_take_one pm_Reader_take_one cd_Reader_take_one ct_Reader_take_one : Value} {od_Reader_take_name an_Reader_take_name : Option Addr} {sl_Reader_take_name : Array (Option Value)} {oc_Reader_take_name kV_Reader_take_name dc_Reader_take_name pm_Reader_take_name cd_Reader_take_name ct_Reader_take_name : Value} {od_Reader_take_integer an_Reader_take_integer : Option Addr} {sl_Reader_take_integer : Array (Option Value)} {oc_Reader_take_integer kV_Reader_take_integer dc_Reader_take_integer pm_Reader_take_integer cd_Reader_take_integer ct_Reader_take_integer : Value} {od_parse_factor an_parse_factor : Option Addr} {sl_parse_factor : Array (Option Value)} {oc_parse_factor kV_parse_factor dc_parse_factor pm_parse_factor cd_parse_factor ct_parse_factor : Value} {od_parse_conjunction an_parse_conjunction : Option Addr} {sl_parse_conjunction : Array (Option Value)} {oc_parse_conjunction kV_parse_conjunction dc_parse_conjunction pm_parse_conjunction cd_parse_conjunction ct_parse_conjunction : Value} {od_parse_condition an_parse_condition : Option Addr} {sl_parse_condition : Array (Option Value)} {oc_parse_condition kV_parse_condition dc_parse_condition pm_parse_condition cd_parse_condition ct_parse_condition : Value} {dT_parse_condition : Addr} {dd_parse_condition : Option Addr} {ds_parse_condition : Array Value} {dn_parse_condition : Nat} {dl_parse_condition : Array (Option Value)} {od_Condition___and__ an_Condition___and__ : Option Addr} {sl_Condition___and__ : Array (Option Value)} {oc_Condition___and__ kV_Condition___and__ dc_Condition___and__ pm_Condition___and__ cd_Condition___and__ ct_Condition___and__ : Value} {od_Condition___or__ an_Condition___or__ : Option Addr} {sl_Condition___or__ : Array (Option Value)} {oc_Condition___or__ kV_Condition___or__ dc_Condition___or__ pm_Condition___or__ cd_Condition___or__ ct_Condition___or__ : Value} {od_join_all an_join_all : Option Addr} {sl_join_all : Array (Option Value)} {oc_join_all kV_join_all dc_join_all pm_join_all cd_join_all ct_join_all : Value} {od_Condition___invert__ an_Condition___invert__ : Option Addr} {sl_Condition___invert__ : Array (Option Value)} {oc_Condition___invert__ kV_Condition___invert__ dc_Condition___invert__ pm_Condition___invert__ cd_Condition___invert__ ct_Condition___invert__ : Value} {od_build_condition an_build_condition : Option Addr} {sl_build_condition : Array (Option Value)} {oc_build_condition kV_build_condition dc_build_condition pm_build_condition cd_build_condition ct_build_condition : Value} {od__law_state an__law_state : Option Addr} {sl__law_state : Array (Option Value)} {oc__law_state kV__law_state dc__law_state pm__law_state cd__law_state ct__law_state : Value} {od__law_draw an__law_draw : Option Addr} {sl__law_draw : Array (Option Value)} {oc__law_draw kV__law_draw dc__law_draw pm__law_draw cd__law_draw ct__law_draw : Value} {od__law_pick an__law_pick : Option Addr} {sl__law_pick : Array (Option Value)} {oc__law_pick kV__law_pick dc__law_pick pm__law_pick cd__law_pick ct__law_pick : Value} {od__law_number an__law_number : Option Addr} {sl__law_number : Array (Option Value)} {oc__law_number kV__law_number dc__law_number pm__law_number cd__law_number ct__law_number : Value} {od__law_constant an__law_constant : Option Addr} {sl__law_constant : Array (Option Value)} {oc__law_constant kV__law_constant dc__law_constant pm__law_constant cd__law_constant ct__law_constant : Value} {od__law_names an__law_names : Option Addr} {sl__law_names : Array (Option Value)} {oc__law_names kV__law_names dc__law_names pm__law_names cd__law_names ct__law_names : Value} {od__law_is_int an__law_is_int : Option Addr} {sl__law_is_int : Array (Option Value)} {oc__law_is_int kV__law_is_int dc__law_is_int pm__law_is_int cd__law_is_int ct__law_is_int : Value} {od__law_same an__law_same : Option Addr} {sl__law_same : Array (Option Value)} {oc__law_same kV__law_same dc__law_same pm__law_same cd__law_same ct__law_same : Value} {od__law_joined an__law_joined : Option Addr} {sl__law_joined : Array (Option Value)} {oc__law_joined kV__law_joined dc__law_joined pm__law_joined cd__law_joined ct__law_joined : Value} {od__law_leaves an__law_leaves : Option Addr} {sl__law_leaves : Array (Option Value)} {oc__law_leaves kV__law_leaves dc__law_leaves pm__law_leaves cd__law_leaves ct__law_leaves : Value} {od__law_opposite an__law_opposite : Option Addr} {sl__law_opposite : Array (Option Value)} {oc__law_opposite kV__law_opposite dc__law_opposite pm__law_opposite cd__law_opposite ct__law_opposite : Value} {od_Reader___init__ an_Reader___init__ : Option Addr} {sl_Reader___init__ : Array (Option Value)} {oc_Reader___init__ kV_Reader___init__ dc_Reader___init__ pm_Reader___init__ cd_Reader___init__ ct_Reader___init__ : Value} {dT_Reader___init__ : Addr} {dd_Reader___init__ : Option Addr} {ds_Reader___init__ : Array Value} {dn_Reader___init__ : Nat} {dl_Reader___init__ : Array (Option Value)} {od_Reader_take_end an_Reader_take_end : Option Addr} {sl_Reader_take_end : Array (Option Value)} {oc_Reader_take_end kV_Reader_take_end dc_Reader_take_end pm_Reader_take_end cd_Reader_take_end ct_Reader_take_end : Value} {p_Condition_read : Addr} {r_Condition_read : List Value} {od_Condition_read an_Condition_read : Option Addr} {sl_Condition_read : Array (Option Value)} {oc_Condition_read kV_Condition_read dc_Condition_read pm_Condition_read cd_Condition_read ct_Condition_read : Value} {od__law_read_it an__law_read_it : Option Addr} {sl__law_read_it : Array (Option Value)} {oc__law_read_it kV__law_read_it dc__law_read_it pm__law_read_it cd__law_read_it ct__law_read_it : Value} {od__law_chain an__law_chain : Option Addr} {sl__law_chain : Array (Option Value)} {oc__law_chain kV__law_chain dc__law_chain pm__law_chain cd__law_chain ct__law_chain : Value} {od__law_chain_due an__law_chain_due : Option Addr} {sl__law_chain_due : Array (Option Value)} {oc__law_chain_due kV__law_chain_due dc__law_chain_due pm__law_chain_due cd__law_chain_due ct__law_chain_due : Value} {od__law_unfit an__law_unfit : Option Addr} {sl__law_unfit : Array (Option Value)} {oc__law_unfit kV__law_unfit dc__law_unfit pm__law_unfit cd__law_unfit ct__law_unfit : Value} {od__law_asks an__law_asks : Option Addr} {sl__law_asks : Array (Option Value)} {oc__law_asks kV__law_asks dc__law_asks pm__law_asks cd__law_asks ct__law_asks : Value} {od__law_lets an__law_lets : Option Addr} {sl__law_lets : Array (Option Value)} {oc__law_lets kV__law_lets dc__law_lets pm__law_lets cd__law_lets ct__law_lets : Value} {od__law_spoils an__law_spoils : Option Addr} {sl__law_spoils : Array (Option Value)} {oc__law_spoils kV__law_spoils dc__law_spoils pm__law_spoils cd__law_spoils ct__law_spoils : Value} {od__law_deep an__law_deep : Option Addr} {sl__law_deep : Array (Option Value)} {oc__law_deep kV__law_deep dc__law_deep pm__law_deep cd__law_deep ct__law_deep : Value} {od_law an_law : Option Addr} {sl_law : Array (Option Value)} {oc_law kV_law dc_law pm_law cd_law ct_law : Value} {p_Condition_always : Addr} {r_Condition_always : List Value} {od_Condition_always an_Condition_always : Option Addr} {sl_Condition_always : Array (Option Value)} {oc_Condition_always kV_Condition_always dc_Condition_always pm_Condition_always cd_Condition_always ct_Condition_always : Value} {p_Condition_never : Addr} {r_Condition_never : List Value} {od_Condition_never an_Condition_never : Option Addr} {sl_Condition_never : Array (Option Value)} {oc_Condition_never kV_Condition_never dc_Condition_never pm_Condition_never cd_Condition_never ct_Condition_never : Value} {p_Condition_compare : Addr} {r_Condition_compare : List Value} {od_Condition_compare an_Condition_compare : Option Addr} {sl_Condition_compare : Array (Option Value)} {oc_Condition_compare kV_Condition_compare dc_Condition_compare pm_Condition_compare cd_Condition_compare ct_Condition_compare : Value} {od_ALWAYS : Option Addr} {its_ALWAYS : Array Value} {n_ALWAYS : Nat} {sl_ALWAYS : Array (Option Value)} {od_MARKS : Option Addr} {its_MARKS : Array Value} {n_MARKS : Nat} {sl_MARKS : Array (Option Value)} {od_NEVER : Option Addr} {its_NEVER : Array Value} {n_NEVER : Nat} {sl_NEVER : Array (Option Value)} {od_RESERVED : Option Addr} {its_RESERVED : Array Value} {n_RESERVED : Nat} {sl_RESERVED : Array (Option Value)} {od_SIGNS : Option Addr} {its_SIGNS : Array Value} {n_SIGNS : Nat} {sl_SIGNS : Array (Option Value)} {f_BadName N_BadName cc_BadName cda_BadName : Addr} {nm_BadName q_BadName : Str} {bs_BadName bm_BadName : List Value} {sn_BadName : List Str} {sub_BadName : List Value} {ab_BadName : Bool} {col_BadName : Option Bool} {dd_BadName : Option Addr} {e0_BadName e1_BadName e2_BadName e3_BadName e5_BadName : Option Value} {oc_BadName doc_BadName pm_BadName ct_BadName ccl_BadName cl_BadName : Value} {od_BadName cdd_BadName cld_BadName : Option Addr} {osl_BadName ccs_BadName csl_BadName : Array (Option Value)} {vs_BadName : Array Value} {file_BadName : Str} {tf_BadName : Tok} {cdD_BadName : ClassData} {f_BadNumber N_BadNumber cc_BadNumber cda_BadNumber : Addr} {nm_BadNumber q_BadNumber : Str} {bs_BadNumber bm_BadNumber : List Value} {sn_BadNumber : List Str} {sub_BadNumber : List Value} {ab_BadNumber : Bool} {col_BadNumber : Option Bool} {dd_BadNumber : Option Addr} {e0_BadNumber e1_BadNumber e2_BadNumber e3_BadNumber e5_BadNumber : Option Value} {oc_BadNumber doc_BadNumber pm_BadNumber ct_BadNumber ccl_BadNumber cl_BadNumber : Value} {od_BadNumber cdd_BadNumber cld_BadNumber : Option Addr} {osl_BadNumber ccs_BadNumber csl_BadNumber : Array (Option Value)} {vs_BadNumber : Array Value} {file_BadNumber : Str} {tf_BadNumber : Tok} {cdD_BadNumber : ClassData} {f_BadSign N_BadSign cc_BadSign cda_BadSign : Addr} {nm_BadSign q_BadSign : Str} {bs_BadSign bm_BadSign : List Value} {sn_BadSign : List Str} {sub_BadSign : List Value} {ab_BadSign : Bool} {col_BadSign : Option Bool} {dd_BadSign : Option Addr} {e0_BadSign e1_BadSign e2_BadSign e3_BadSign e5_BadSign : Option Value} {oc_BadSign doc_BadSign pm_BadSign ct_BadSign ccl_BadSign cl_BadSign : Value} {od_BadSign cdd_BadSign cld_BadSign : Option Addr} {osl_BadSign ccs_BadSign csl_BadSign : Array (Option Value)} {vs_BadSign : Array Value} {file_BadSign : Str} {tf_BadSign : Tok} {cdD_BadSign : ClassData} {f_BadText N_BadText cc_BadText cda_BadText : Addr} {nm_BadText q_BadText : Str} {bs_BadText bm_BadText : List Value} {sn_BadText : List Str} {sub_BadText : List Value} {ab_BadText : Bool} {col_BadText : Option Bool} {dd_BadText : Option Addr} {e0_BadText e1_BadText e2_BadText e3_BadText e5_BadText : Option Value} {oc_BadText doc_BadText pm_BadText ct_BadText ccl_BadText cl_BadText : Value} {od_BadText cdd_BadText cld_BadText : Option Addr} {osl_BadText ccs_BadText csl_BadText : Array (Option Value)} {vs_BadText : Array Value} {file_BadText : Str} {tf_BadText : Tok} {cdD_BadText : ClassData} {f_TooLarge N_TooLarge cc_TooLarge cda_TooLarge : Addr} {nm_TooLarge q_TooLarge : Str} {bs_TooLarge bm_TooLarge : List Value} {sn_TooLarge : List Str} {sub_TooLarge : List Value} {ab_TooLarge : Bool} {col_TooLarge : Option Bool} {dd_TooLarge : Option Addr} {e0_TooLarge e1_TooLarge e2_TooLarge e3_TooLarge e5_TooLarge : Option Value} {oc_TooLarge doc_TooLarge pm_TooLarge ct_TooLarge ccl_TooLarge cl_TooLarge : Value} {od_TooLarge cdd_TooLarge cld_TooLarge : Option Addr} {osl_TooLarge ccs_TooLarge csl_TooLarge : Array (Option Value)} {vs_TooLarge : Array Value} {file_TooLarge : Str} {tf_TooLarge : Tok} {cdD_TooLarge : ClassData} {es_OPPOSITES : Array DictEntry} {nd_OPPOSITES : Nat} {tk_OPPOSITES_0 : Tok} {tk_OPPOSITES_1 : Tok} {tk_OPPOSITES_2 : Tok} {tk_OPPOSITES_3 : Tok} {tk_OPPOSITES_4 : Tok} {tk_OPPOSITES_5 : Tok} (X : K.In h) (G : h.Ns mainGlobals mg) (hfa : mg "law" = some (.ref fa))
    (g_Reader : PySem.W.nsIn K mainGlobals "Reader" = some (some (.ref a_Reader)))
    (pg_Reader : PySem.W.plainGet K a_Reader Str.empty = true)
    (hx_Reader : PySem.W.hasDictIn K a_Reader = true)
    (po_Reader : PySem.W.plainOver K a_Reader = true)
    (st_Reader : PySem.W.findIn K (.ref a_Reader) "__setattr__" = some (some (.builtin "object.__setattr__")))
    (rr_Reader : PySem.W.readsIn K a_Reader (.type "type") = true)
    (rg_Reader : PySem.W.specialIn K (.ref a_Reader) "__getattribute__" = some (some (.builtin "type.__getattribute__")))
    (mi_Reader : PySem.W.makesIn K a_Reader = true)
    (ko_Reader : PySem.W.keepIn K (.ref a_Reader) = true)
    (sf_Reader : PySem.W.selfFirst K a_Reader = true)
    (na_Reader__at : PySem.W.findIn K (.ref a_Reader) "_at" = some none)
    (na_Reader__end : PySem.W.findIn K (.ref a_Reader) "_end" = some none)
    (na_Reader__number : PySem.W.findIn K (.ref a_Reader) "_number" = some none)
    (na_Reader__parts : PySem.W.findIn K (.ref a_Reader) "_parts" = some none)
    (g_Condition : PySem.W.nsIn K mainGlobals "Condition" = some (some (.ref a_Condition)))
    (pg_Condition : PySem.W.plainGet K a_Condition Str.empty = true)
    (hx_Condition : PySem.W.hasDictIn K a_Condition = true)
    (po_Condition : PySem.W.plainOver K a_Condition = true)
    (st_Condition : PySem.W.findIn K (.ref a_Condition) "__setattr__" = some (some (.builtin "object.__setattr__")))
    (rr_Condition : PySem.W.readsIn K a_Condition (.type "type") = true)
    (rg_Condition : PySem.W.specialIn K (.ref a_Condition) "__getattribute__" = some (some (.builtin "type.__getattribute__")))
    (mi_Condition : PySem.W.makesIn K a_Condition = true)
    (ko_Condition : PySem.W.keepIn K (.ref a_Condition) = true)
    (sf_Condition : PySem.W.selfFirst K a_Condition = true)
    (na_Condition__fields : PySem.W.findIn K (.ref a_Condition) "_fields" = some none)
    (na_Condition_tree : PySem.W.findIn K (.ref a_Condition) "tree" = some none)
    (cv_Condition_MOST : PySem.W.findCls K (.ref a_Condition) (.type "type") "MOST" = some (.val (.int 8 u_Condition_MOST)))
    (a_is_name : PySem.W.nsIn K mainGlobals "is_name" = some (some (.ref f_is_name)))
    (l_is_name : K.lookup f_is_name = some ⟨oc_is_name, od_is_name, .func (PySem.W.fnOf "is_name" "is_name" (defArgs s_is_name) (defBody s_is_name) (defScope s_is_name) .none kV_is_name dc_is_name pm_is_name an_is_name cd_is_name ct_is_name), sl_is_name⟩)
    (c_is_name : PySem.W.codeIn K cd_is_name "is_name" = true)
    (k_is_name : PySem.W.keepIn K (.ref f_is_name) = true)
    (a_run_end : PySem.W.nsIn K mainGlobals "run_end" = some (some (.ref f_run_end)))
    (l_run_end : K.lookup f_run_end = some ⟨oc_run_end, od_run_end, .func (PySem.W.fnOf "run_end" "run_end" (defArgs s_run_end) (defBody s_run_end) (defScope s_run_end) .none kV_run_end dc_run_end pm_run_end an_run_end cd_run_end ct_run_end), sl_run_end⟩)
    (c_run_end : PySem.W.codeIn K cd_run_end "run_end" = true)
    (k_run_end : PySem.W.keepIn K (.ref f_run_end) = true)
    (a_token_end : PySem.W.nsIn K mainGlobals "token_end" = some (some (.ref f_token_end)))
    (l_token_end : K.lookup f_token_end = some ⟨oc_token_end, od_token_end, .func (PySem.W.fnOf "token_end" "token_end" (defArgs s_token_end) (defBody s_token_end) (defScope s_token_end) .none kV_token_end dc_token_end pm_token_end an_token_end cd_token_end ct_token_end), sl_token_end⟩)
    (c_token_end : PySem.W.codeIn K cd_token_end "token_end" = true)
    (k_token_end : PySem.W.keepIn K (.ref f_token_end) = true)
    (a_split_line : PySem.W.nsIn K mainGlobals "split_line" = some (some (.ref f_split_line)))
    (l_split_line : K.lookup f_split_line = some ⟨oc_split_line, od_split_line, .func (PySem.W.fnOf "split_line" "split_line" (defArgs s_split_line) (defBody s_split_line) (defScope s_split_line) .none kV_split_line dc_split_line pm_split_line an_split_line cd_split_line ct_split_line), sl_split_line⟩)
    (c_split_line : PySem.W.codeIn K cd_split_line "split_line" = true)
    (k_split_line : PySem.W.keepIn K (.ref f_split_line) = true)
    (a_in_bound : PySem.W.nsIn K mainGlobals "in_bound" = some (some (.ref f_in_bound)))
    (l_in_bound : K.lookup f_in_bound = some ⟨oc_in_bound, od_in_bound, .func (PySem.W.fnOf "in_bound" "in_bound" (defArgs s_in_bound) (defBody s_in_bound) (defScope s_in_bound) .none kV_in_bound dc_in_bound pm_in_bound an_in_bound cd_in_bound ct_in_bound), sl_in_bound⟩)
    (c_in_bound : PySem.W.codeIn K cd_in_bound "in_bound" = true)
    (k_in_bound : PySem.W.keepIn K (.ref f_in_bound) = true)
    (a_check_name : PySem.W.nsIn K mainGlobals "check_name" = some (some (.ref f_check_name)))
    (l_check_name : K.lookup f_check_name = some ⟨oc_check_name, od_check_name, .func (PySem.W.fnOf "check_name" "check_name" (defArgs s_check_name) (defBody s_check_name) (defScope s_check_name) .none kV_check_name dc_check_name pm_check_name an_check_name cd_check_name ct_check_name), sl_check_name⟩)
    (c_check_name : PySem.W.codeIn K cd_check_name "check_name" = true)
    (k_check_name : PySem.W.keepIn K (.ref f_check_name) = true)
    (a_check_number : PySem.W.nsIn K mainGlobals "check_number" = some (some (.ref f_check_number)))
    (l_check_number : K.lookup f_check_number = some ⟨oc_check_number, od_check_number, .func (PySem.W.fnOf "check_number" "check_number" (defArgs s_check_number) (defBody s_check_number) (defScope s_check_number) .none kV_check_number dc_check_number pm_check_number an_check_number cd_check_number ct_check_number), sl_check_number⟩)
    (c_check_number : PySem.W.codeIn K cd_check_number "check_number" = true)
    (k_check_number : PySem.W.keepIn K (.ref f_check_number) = true)
    (a_is_integer : PySem.W.nsIn K mainGlobals "is_integer" = some (some (.ref f_is_integer)))
    (l_is_integer : K.lookup f_is_integer = some ⟨oc_is_integer, od_is_integer, .func (PySem.W.fnOf "is_integer" "is_integer" (defArgs s_is_integer) (defBody s_is_integer) (defScope s_is_integer) .none kV_is_integer dc_is_integer pm_is_integer an_is_integer cd_is_integer ct_is_integer), sl_is_integer⟩)
    (c_is_integer : PySem.W.codeIn K cd_is_integer "is_integer" = true)
    (k_is_integer : PySem.W.keepIn K (.ref f_is_integer) = true)
    (a_comparisons : PySem.W.nsIn K mainGlobals "comparisons" = some (some (.ref f_comparisons)))
    (l_comparisons : K.lookup f_comparisons = some ⟨oc_comparisons, od_comparisons, .func (PySem.W.fnOf "comparisons" "comparisons" (defArgs s_comparisons) (defBody s_comparisons) (defScope s_comparisons) .none kV_comparisons dc_comparisons pm_comparisons an_comparisons cd_comparisons ct_comparisons), sl_comparisons⟩)
    (c_comparisons : PySem.W.codeIn K cd_comparisons "comparisons" = true)
    (k_comparisons : PySem.W.keepIn K (.ref f_comparisons) = true)
    (a_joined_tree : PySem.W.nsIn K mainGlobals "joined_tree" = some (some (.ref f_joined_tree)))
    (l_joined_tree : K.lookup f_joined_tree = some ⟨oc_joined_tree, od_joined_tree, .func (PySem.W.fnOf "joined_tree" "joined_tree" (defArgs s_joined_tree) (defBody s_joined_tree) (defScope s_joined_tree) .none kV_joined_tree dc_joined_tree pm_joined_tree an_joined_tree cd_joined_tree ct_joined_tree), sl_joined_tree⟩)
    (c_joined_tree : PySem.W.codeIn K cd_joined_tree "joined_tree" = true)
    (k_joined_tree : PySem.W.keepIn K (.ref f_joined_tree) = true)
    (fa_Condition___init__ : PySem.W.findIn K (.ref a_Condition) "__init__" = some (some (.ref f_Condition___init__)))
    (fn_Condition___init__ : PySem.W.isFn K (.ref f_Condition___init__) = true)
    (l_Condition___init__ : K.lookup f_Condition___init__ = some ⟨oc_Condition___init__, od_Condition___init__, .func (PySem.W.fnOf "__init__" "Condition.__init__" (defArgs s_Condition___init__) (defBody s_Condition___init__) (defScope s_Condition___init__) .none kV_Condition___init__ dc_Condition___init__ pm_Condition___init__ an_Condition___init__ cd_Condition___init__ ct_Condition___init__), sl_Condition___init__⟩)
    (c_Condition___init__ : PySem.W.codeIn K cd_Condition___init__ "Condition.__init__" = true)
    (k_Condition___init__ : PySem.W.keepIn K (.ref f_Condition___init__) = true)
    (a_joined : PySem.W.nsIn K mainGlobals "joined" = some (some (.ref f_joined)))
    (l_joined : K.lookup f_joined = some ⟨oc_joined, od_joined, .func (PySem.W.fnOf "joined" "joined" (defArgs s_joined) (defBody s_joined) (defScope s_joined) .none kV_joined dc_joined pm_joined an_joined cd_joined ct_joined), sl_joined⟩)
    (c_joined : PySem.W.codeIn K cd_joined "joined" = true)
    (k_joined : PySem.W.keepIn K (.ref f_joined) = true)
    (a_opposite : PySem.W.nsIn K mainGlobals "opposite" = some (some (.ref f_opposite)))
    (l_opposite : K.lookup f_opposite = some ⟨oc_opposite, od_opposite, .func (PySem.W.fnOf "opposite" "opposite" (defArgs s_opposite) (defBody s_opposite) (defScope s_opposite) .none kV_opposite dc_opposite pm_opposite an_opposite cd_opposite ct_opposite), sl_opposite⟩)
    (c_opposite : PySem.W.codeIn K cd_opposite "opposite" = true)
    (k_opposite : PySem.W.keepIn K (.ref f_opposite) = true)
    (fa_Reader_at_end : PySem.W.findIn K (.ref a_Reader) "at_end" = some (some (.ref f_Reader_at_end)))
    (fn_Reader_at_end : PySem.W.isFn K (.ref f_Reader_at_end) = true)
    (l_Reader_at_end : K.lookup f_Reader_at_end = some ⟨oc_Reader_at_end, od_Reader_at_end, .func (PySem.W.fnOf "at_end" "Reader.at_end" (defArgs s_Reader_at_end) (defBody s_Reader_at_end) (defScope s_Reader_at_end) .none kV_Reader_at_end dc_Reader_at_end pm_Reader_at_end an_Reader_at_end cd_Reader_at_end ct_Reader_at_end), sl_Reader_at_end⟩)
    (c_Reader_at_end : PySem.W.codeIn K cd_Reader_at_end "Reader.at_end" = true)
    (k_Reader_at_end : PySem.W.keepIn K (.ref f_Reader_at_end) = true)
    (fa_Reader_ahead : PySem.W.findIn K (.ref a_Reader) "ahead" = some (some (.ref f_Reader_ahead)))
    (fn_Reader_ahead : PySem.W.isFn K (.ref f_Reader_ahead) = true)
    (l_Reader_ahead : K.lookup f_Reader_ahead = some ⟨oc_Reader_ahead, od_Reader_ahead, .func (PySem.W.fnOf "ahead" "Reader.ahead" (defArgs s_Reader_ahead) (defBody s_Reader_ahead) (defScope s_Reader_ahead) .none kV_Reader_ahead dc_Reader_ahead pm_Reader_ahead an_Reader_ahead cd_Reader_ahead ct_Reader_ahead), sl_Reader_ahead⟩)
    (c_Reader_ahead : PySem.W.codeIn K cd_Reader_ahead "Reader.ahead" = true)
    (k_Reader_ahead : PySem.W.keepIn K (.ref f_Reader_ahead) = true)
    (fa_Reader_skip : PySem.W.findIn K (.ref a_Reader) "skip" = some (some (.ref f_Reader_skip)))
    (fn_Reader_skip : PySem.W.isFn K (.ref f_Reader_skip) = true)
    (l_Reader_skip : K.lookup f_Reader_skip = some ⟨oc_Reader_skip, od_Reader_skip, .func (PySem.W.fnOf "skip" "Reader.skip" (defArgs s_Reader_skip) (defBody s_Reader_skip) (defScope s_Reader_skip) .none kV_Reader_skip dc_Reader_skip pm_Reader_skip an_Reader_skip cd_Reader_skip ct_Reader_skip), sl_Reader_skip⟩)
    (c_Reader_skip : PySem.W.codeIn K cd_Reader_skip "Reader.skip" = true)
    (k_Reader_skip : PySem.W.keepIn K (.ref f_Reader_skip) = true)
    (fa_Reader__refuse : PySem.W.findIn K (.ref a_Reader) "_refuse" = some (some (.ref f_Reader__refuse)))
    (fn_Reader__refuse : PySem.W.isFn K (.ref f_Reader__refuse) = true)
    (l_Reader__refuse : K.lookup f_Reader__refuse = some ⟨oc_Reader__refuse, od_Reader__refuse, .func (PySem.W.fnOf "_refuse" "Reader._refuse" (defArgs s_Reader__refuse) (defBody s_Reader__refuse) (defScope s_Reader__refuse) .none kV_Reader__refuse dc_Reader__refuse pm_Reader__refuse an_Reader__refuse cd_Reader__refuse ct_Reader__refuse), sl_Reader__refuse⟩)
    (c_Reader__refuse : PySem.W.codeIn K cd_Reader__refuse "Reader._refuse" = true)
    (k_Reader__refuse : PySem.W.keepIn K (.ref f_Reader__refuse) = true)
    (fa_Reader__take_if : PySem.W.findIn K (.ref a_Reader) "_take_if" = some (some (.ref f_Reader__take_if)))
    (fn_Reader__take_if : PySem.W.isFn K (.ref f_Reader__take_if) = true)
    (l_Reader__take_if : K.lookup f_Reader__take_if = some ⟨oc_Reader__take_if, od_Reader__take_if, .func (PySem.W.fnOf "_take_if" "Reader._take_if" (defArgs s_Reader__take_if) (defBody s_Reader__take_if) (defScope s_Reader__take_if) .none kV_Reader__take_if dc_Reader__take_if pm_Reader__take_if an_Reader__take_if cd_Reader__take_if ct_Reader__take_if), sl_Reader__take_if⟩)
    (c_Reader__take_if : PySem.W.codeIn K cd_Reader__take_if "Reader._take_if" = true)
    (k_Reader__take_if : PySem.W.keepIn K (.ref f_Reader__take_if) = true)
    (fa_Reader_take_one : PySem.W.findIn K (.ref a_Reader) "take_one" = some (some (.ref f_Reader_take_one)))
    (fn_Reader_take_one : PySem.W.isFn K (.ref f_Reader_take_one) = true)
    (l_Reader_take_one : K.lookup f_Reader_take_one = some ⟨oc_Reader_take_one, od_Reader_take_one, .func (PySem.W.fnOf "take_one" "Reader.take_one" (defArgs s_Reader_take_one) (defBody s_Reader_take_one) (defScope s_Reader_take_one) .none kV_Reader_take_one dc_Reader_take_one pm_Reader_take_one an_Reader_take_one cd_Reader_take_one ct_Reader_take_one), sl_Reader_take_one⟩)
    (c_Reader_take_one : PySem.W.codeIn K cd_Reader_take_one "Reader.take_one" = true)
    (k_Reader_take_one : PySem.W.keepIn K (.ref f_Reader_take_one) = true)
    (fa_Reader_take_name : PySem.W.findIn K (.ref a_Reader) "take_name" = some (some (.ref f_Reader_take_name)))
    (fn_Reader_take_name : PySem.W.isFn K (.ref f_Reader_take_name) = true)
    (l_Reader_take_name : K.lookup f_Reader_take_name = some ⟨oc_Reader_take_name, od_Reader_take_name, .func (PySem.W.fnOf "take_name" "Reader.take_name" (defArgs s_Reader_take_name) (defBody s_Reader_take_name) (defScope s_Reader_take_name) .none kV_Reader_take_name dc_Reader_take_name pm_Reader_take_name an_Reader_take_name cd_Reader_take_name ct_Reader_take_name), sl_Reader_take_name⟩)
    (c_Reader_take_name : PySem.W.codeIn K cd_Reader_take_name "Reader.take_name" = true)
    (k_Reader_take_name : PySem.W.keepIn K (.ref f_Reader_take_name) = true)
    (fa_Reader_take_integer : PySem.W.findIn K (.ref a_Reader) "take_integer" = some (some (.ref f_Reader_take_integer)))
    (fn_Reader_take_integer : PySem.W.isFn K (.ref f_Reader_take_integer) = true)
    (l_Reader_take_integer : K.lookup f_Reader_take_integer = some ⟨oc_Reader_take_integer, od_Reader_take_integer, .func (PySem.W.fnOf "take_integer" "Reader.take_integer" (defArgs s_Reader_take_integer) (defBody s_Reader_take_integer) (defScope s_Reader_take_integer) .none kV_Reader_take_integer dc_Reader_take_integer pm_Reader_take_integer an_Reader_take_integer cd_Reader_take_integer ct_Reader_take_integer), sl_Reader_take_integer⟩)
    (c_Reader_take_integer : PySem.W.codeIn K cd_Reader_take_integer "Reader.take_integer" = true)
    (k_Reader_take_integer : PySem.W.keepIn K (.ref f_Reader_take_integer) = true)
    (a_parse_factor : PySem.W.nsIn K mainGlobals "parse_factor" = some (some (.ref f_parse_factor)))
    (l_parse_factor : K.lookup f_parse_factor = some ⟨oc_parse_factor, od_parse_factor, .func (PySem.W.fnOf "parse_factor" "parse_factor" (defArgs s_parse_factor) (defBody s_parse_factor) (defScope s_parse_factor) .none kV_parse_factor dc_parse_factor pm_parse_factor an_parse_factor cd_parse_factor ct_parse_factor), sl_parse_factor⟩)
    (c_parse_factor : PySem.W.codeIn K cd_parse_factor "parse_factor" = true)
    (k_parse_factor : PySem.W.keepIn K (.ref f_parse_factor) = true)
    (a_parse_conjunction : PySem.W.nsIn K mainGlobals "parse_conjunction" = some (some (.ref f_parse_conjunction)))
    (l_parse_conjunction : K.lookup f_parse_conjunction = some ⟨oc_parse_conjunction, od_parse_conjunction, .func (PySem.W.fnOf "parse_conjunction" "parse_conjunction" (defArgs s_parse_conjunction) (defBody s_parse_conjunction) (defScope s_parse_conjunction) .none kV_parse_conjunction dc_parse_conjunction pm_parse_conjunction an_parse_conjunction cd_parse_conjunction ct_parse_conjunction), sl_parse_conjunction⟩)
    (c_parse_conjunction : PySem.W.codeIn K cd_parse_conjunction "parse_conjunction" = true)
    (k_parse_conjunction : PySem.W.keepIn K (.ref f_parse_conjunction) = true)
    (a_parse_condition : PySem.W.nsIn K mainGlobals "parse_condition" = some (some (.ref f_parse_condition)))
    (l_parse_condition : K.lookup f_parse_condition = some ⟨oc_parse_condition, od_parse_condition, .func (PySem.W.fnOf "parse_condition" "parse_condition" (defArgs s_parse_condition) (defBody s_parse_condition) (defScope s_parse_condition) (.ref dT_parse_condition) kV_parse_condition dc_parse_condition pm_parse_condition an_parse_condition cd_parse_condition ct_parse_condition), sl_parse_condition⟩)
    (ld_parse_condition : K.lookup dT_parse_condition = some ⟨.type "tuple", dd_parse_condition, .seq ds_parse_condition dn_parse_condition, dl_parse_condition⟩)
    (v_d_parse_condition : Vals [(.int 0)] ds_parse_condition.toList)
    (c_parse_condition : PySem.W.codeIn K cd_parse_condition "parse_condition" = true)
    (k_parse_condition : PySem.W.keepIn K (.ref f_parse_condition) = true)
    (fa_Condition___and__ : PySem.W.findIn K (.ref a_Condition) "__and__" = some (some (.ref f_Condition___and__)))
    (fn_Condition___and__ : PySem.W.isFn K (.ref f_Condition___and__) = true)
    (l_Condition___and__ : K.lookup f_Condition___and__ = some ⟨oc_Condition___and__, od_Condition___and__, .func (PySem.W.fnOf "__and__" "Condition.__and__" (defArgs s_Condition___and__) (defBody s_Condition___and__) (defScope s_Condition___and__) .none kV_Condition___and__ dc_Condition___and__ pm_Condition___and__ an_Condition___and__ cd_Condition___and__ ct_Condition___and__), sl_Condition___and__⟩)
    (c_Condition___and__ : PySem.W.codeIn K cd_Condition___and__ "Condition.__and__" = true)
    (k_Condition___and__ : PySem.W.keepIn K (.ref f_Condition___and__) = true)
    (fa_Condition___or__ : PySem.W.findIn K (.ref a_Condition) "__or__" = some (some (.ref f_Condition___or__)))
    (fn_Condition___or__ : PySem.W.isFn K (.ref f_Condition___or__) = true)
    (l_Condition___or__ : K.lookup f_Condition___or__ = some ⟨oc_Condition___or__, od_Condition___or__, .func (PySem.W.fnOf "__or__" "Condition.__or__" (defArgs s_Condition___or__) (defBody s_Condition___or__) (defScope s_Condition___or__) .none kV_Condition___or__ dc_Condition___or__ pm_Condition___or__ an_Condition___or__ cd_Condition___or__ ct_Condition___or__), sl_Condition___or__⟩)
    (c_Condition___or__ : PySem.W.codeIn K cd_Condition___or__ "Condition.__or__" = true)
    (k_Condition___or__ : PySem.W.keepIn K (.ref f_Condition___or__) = true)
    (a_join_all : PySem.W.nsIn K mainGlobals "join_all" = some (some (.ref f_join_all)))
    (l_join_all : K.lookup f_join_all = some ⟨oc_join_all, od_join_all, .func (PySem.W.fnOf "join_all" "join_all" (defArgs s_join_all) (defBody s_join_all) (defScope s_join_all) .none kV_join_all dc_join_all pm_join_all an_join_all cd_join_all ct_join_all), sl_join_all⟩)
    (c_join_all : PySem.W.codeIn K cd_join_all "join_all" = true)
    (k_join_all : PySem.W.keepIn K (.ref f_join_all) = true)
    (fa_Condition___invert__ : PySem.W.findIn K (.ref a_Condition) "__invert__" = some (some (.ref f_Condition___invert__)))
    (fn_Condition___invert__ : PySem.W.isFn K (.ref f_Condition___invert__) = true)
    (l_Condition___invert__ : K.lookup f_Condition___invert__ = some ⟨oc_Condition___invert__, od_Condition___invert__, .func (PySem.W.fnOf "__invert__" "Condition.__invert__" (defArgs s_Condition___invert__) (defBody s_Condition___invert__) (defScope s_Condition___invert__) .none kV_Condition___invert__ dc_Condition___invert__ pm_Condition___invert__ an_Condition___invert__ cd_Condition___invert__ ct_Condition___invert__), sl_Condition___invert__⟩)
    (c_Condition___invert__ : PySem.W.codeIn K cd_Condition___invert__ "Condition.__invert__" = true)
    (k_Condition___invert__ : PySem.W.keepIn K (.ref f_Condition___invert__) = true)
    (a_build_condition : PySem.W.nsIn K mainGlobals "build_condition" = some (some (.ref f_build_condition)))
    (l_build_condition : K.lookup f_build_condition = some ⟨oc_build_condition, od_build_condition, .func (PySem.W.fnOf "build_condition" "build_condition" (defArgs s_build_condition) (defBody s_build_condition) (defScope s_build_condition) .none kV_build_condition dc_build_condition pm_build_condition an_build_condition cd_build_condition ct_build_condition), sl_build_condition⟩)
    (c_build_condition : PySem.W.codeIn K cd_build_condition "build_condition" = true)
    (k_build_condition : PySem.W.keepIn K (.ref f_build_condition) = true)
    (a__law_state : PySem.W.nsIn K mainGlobals "_law_state" = some (some (.ref f__law_state)))
    (l__law_state : K.lookup f__law_state = some ⟨oc__law_state, od__law_state, .func (PySem.W.fnOf "_law_state" "_law_state" (defArgs s__law_state) (defBody s__law_state) (defScope s__law_state) .none kV__law_state dc__law_state pm__law_state an__law_state cd__law_state ct__law_state), sl__law_state⟩)
    (c__law_state : PySem.W.codeIn K cd__law_state "_law_state" = true)
    (k__law_state : PySem.W.keepIn K (.ref f__law_state) = true)
    (a__law_draw : PySem.W.nsIn K mainGlobals "_law_draw" = some (some (.ref f__law_draw)))
    (l__law_draw : K.lookup f__law_draw = some ⟨oc__law_draw, od__law_draw, .func (PySem.W.fnOf "_law_draw" "_law_draw" (defArgs s__law_draw) (defBody s__law_draw) (defScope s__law_draw) .none kV__law_draw dc__law_draw pm__law_draw an__law_draw cd__law_draw ct__law_draw), sl__law_draw⟩)
    (c__law_draw : PySem.W.codeIn K cd__law_draw "_law_draw" = true)
    (k__law_draw : PySem.W.keepIn K (.ref f__law_draw) = true)
    (a__law_pick : PySem.W.nsIn K mainGlobals "_law_pick" = some (some (.ref f__law_pick)))
    (l__law_pick : K.lookup f__law_pick = some ⟨oc__law_pick, od__law_pick, .func (PySem.W.fnOf "_law_pick" "_law_pick" (defArgs s__law_pick) (defBody s__law_pick) (defScope s__law_pick) .none kV__law_pick dc__law_pick pm__law_pick an__law_pick cd__law_pick ct__law_pick), sl__law_pick⟩)
    (c__law_pick : PySem.W.codeIn K cd__law_pick "_law_pick" = true)
    (k__law_pick : PySem.W.keepIn K (.ref f__law_pick) = true)
    (a__law_number : PySem.W.nsIn K mainGlobals "_law_number" = some (some (.ref f__law_number)))
    (l__law_number : K.lookup f__law_number = some ⟨oc__law_number, od__law_number, .func (PySem.W.fnOf "_law_number" "_law_number" (defArgs s__law_number) (defBody s__law_number) (defScope s__law_number) .none kV__law_number dc__law_number pm__law_number an__law_number cd__law_number ct__law_number), sl__law_number⟩)
    (c__law_number : PySem.W.codeIn K cd__law_number "_law_number" = true)
    (k__law_number : PySem.W.keepIn K (.ref f__law_number) = true)
    (a__law_constant : PySem.W.nsIn K mainGlobals "_law_constant" = some (some (.ref f__law_constant)))
    (l__law_constant : K.lookup f__law_constant = some ⟨oc__law_constant, od__law_constant, .func (PySem.W.fnOf "_law_constant" "_law_constant" (defArgs s__law_constant) (defBody s__law_constant) (defScope s__law_constant) .none kV__law_constant dc__law_constant pm__law_constant an__law_constant cd__law_constant ct__law_constant), sl__law_constant⟩)
    (c__law_constant : PySem.W.codeIn K cd__law_constant "_law_constant" = true)
    (k__law_constant : PySem.W.keepIn K (.ref f__law_constant) = true)
    (a__law_names : PySem.W.nsIn K mainGlobals "_law_names" = some (some (.ref f__law_names)))
    (l__law_names : K.lookup f__law_names = some ⟨oc__law_names, od__law_names, .func (PySem.W.fnOf "_law_names" "_law_names" (defArgs s__law_names) (defBody s__law_names) (defScope s__law_names) .none kV__law_names dc__law_names pm__law_names an__law_names cd__law_names ct__law_names), sl__law_names⟩)
    (c__law_names : PySem.W.codeIn K cd__law_names "_law_names" = true)
    (k__law_names : PySem.W.keepIn K (.ref f__law_names) = true)
    (a__law_is_int : PySem.W.nsIn K mainGlobals "_law_is_int" = some (some (.ref f__law_is_int)))
    (l__law_is_int : K.lookup f__law_is_int = some ⟨oc__law_is_int, od__law_is_int, .func (PySem.W.fnOf "_law_is_int" "_law_is_int" (defArgs s__law_is_int) (defBody s__law_is_int) (defScope s__law_is_int) .none kV__law_is_int dc__law_is_int pm__law_is_int an__law_is_int cd__law_is_int ct__law_is_int), sl__law_is_int⟩)
    (c__law_is_int : PySem.W.codeIn K cd__law_is_int "_law_is_int" = true)
    (k__law_is_int : PySem.W.keepIn K (.ref f__law_is_int) = true)
    (a__law_same : PySem.W.nsIn K mainGlobals "_law_same" = some (some (.ref f__law_same)))
    (l__law_same : K.lookup f__law_same = some ⟨oc__law_same, od__law_same, .func (PySem.W.fnOf "_law_same" "_law_same" (defArgs s__law_same) (defBody s__law_same) (defScope s__law_same) .none kV__law_same dc__law_same pm__law_same an__law_same cd__law_same ct__law_same), sl__law_same⟩)
    (c__law_same : PySem.W.codeIn K cd__law_same "_law_same" = true)
    (k__law_same : PySem.W.keepIn K (.ref f__law_same) = true)
    (a__law_joined : PySem.W.nsIn K mainGlobals "_law_joined" = some (some (.ref f__law_joined)))
    (l__law_joined : K.lookup f__law_joined = some ⟨oc__law_joined, od__law_joined, .func (PySem.W.fnOf "_law_joined" "_law_joined" (defArgs s__law_joined) (defBody s__law_joined) (defScope s__law_joined) .none kV__law_joined dc__law_joined pm__law_joined an__law_joined cd__law_joined ct__law_joined), sl__law_joined⟩)
    (c__law_joined : PySem.W.codeIn K cd__law_joined "_law_joined" = true)
    (k__law_joined : PySem.W.keepIn K (.ref f__law_joined) = true)
    (a__law_leaves : PySem.W.nsIn K mainGlobals "_law_leaves" = some (some (.ref f__law_leaves)))
    (l__law_leaves : K.lookup f__law_leaves = some ⟨oc__law_leaves, od__law_leaves, .func (PySem.W.fnOf "_law_leaves" "_law_leaves" (defArgs s__law_leaves) (defBody s__law_leaves) (defScope s__law_leaves) .none kV__law_leaves dc__law_leaves pm__law_leaves an__law_leaves cd__law_leaves ct__law_leaves), sl__law_leaves⟩)
    (c__law_leaves : PySem.W.codeIn K cd__law_leaves "_law_leaves" = true)
    (k__law_leaves : PySem.W.keepIn K (.ref f__law_leaves) = true)
    (a__law_opposite : PySem.W.nsIn K mainGlobals "_law_opposite" = some (some (.ref f__law_opposite)))
    (l__law_opposite : K.lookup f__law_opposite = some ⟨oc__law_opposite, od__law_opposite, .func (PySem.W.fnOf "_law_opposite" "_law_opposite" (defArgs s__law_opposite) (defBody s__law_opposite) (defScope s__law_opposite) .none kV__law_opposite dc__law_opposite pm__law_opposite an__law_opposite cd__law_opposite ct__law_opposite), sl__law_opposite⟩)
    (c__law_opposite : PySem.W.codeIn K cd__law_opposite "_law_opposite" = true)
    (k__law_opposite : PySem.W.keepIn K (.ref f__law_opposite) = true)
    (fa_Reader___init__ : PySem.W.findIn K (.ref a_Reader) "__init__" = some (some (.ref f_Reader___init__)))
    (fn_Reader___init__ : PySem.W.isFn K (.ref f_Reader___init__) = true)
    (l_Reader___init__ : K.lookup f_Reader___init__ = some ⟨oc_Reader___init__, od_Reader___init__, .func (PySem.W.fnOf "__init__" "Reader.__init__" (defArgs s_Reader___init__) (defBody s_Reader___init__) (defScope s_Reader___init__) (.ref dT_Reader___init__) kV_Reader___init__ dc_Reader___init__ pm_Reader___init__ an_Reader___init__ cd_Reader___init__ ct_Reader___init__), sl_Reader___init__⟩)
    (ld_Reader___init__ : K.lookup dT_Reader___init__ = some ⟨.type "tuple", dd_Reader___init__, .seq ds_Reader___init__ dn_Reader___init__, dl_Reader___init__⟩)
    (v_d_Reader___init__ : Vals [(.int 1)] ds_Reader___init__.toList)
    (c_Reader___init__ : PySem.W.codeIn K cd_Reader___init__ "Reader.__init__" = true)
    (k_Reader___init__ : PySem.W.keepIn K (.ref f_Reader___init__) = true)
    (fa_Reader_take_end : PySem.W.findIn K (.ref a_Reader) "take_end" = some (some (.ref f_Reader_take_end)))
    (fn_Reader_take_end : PySem.W.isFn K (.ref f_Reader_take_end) = true)
    (l_Reader_take_end : K.lookup f_Reader_take_end = some ⟨oc_Reader_take_end, od_Reader_take_end, .func (PySem.W.fnOf "take_end" "Reader.take_end" (defArgs s_Reader_take_end) (defBody s_Reader_take_end) (defScope s_Reader_take_end) .none kV_Reader_take_end dc_Reader_take_end pm_Reader_take_end an_Reader_take_end cd_Reader_take_end ct_Reader_take_end), sl_Reader_take_end⟩)
    (c_Reader_take_end : PySem.W.codeIn K cd_Reader_take_end "Reader.take_end" = true)
    (k_Reader_take_end : PySem.W.keepIn K (.ref f_Reader_take_end) = true)
    (sg_Condition_read : PySem.W.findCls K (.ref a_Condition) (.type "type") "read" = some (.get (.builtin "staticmethod.__get__") (.ref p_Condition_read) .none (.ref a_Condition)))
    (sr_Condition_read : PySem.W.recIn K p_Condition_read "staticmethod" = some (.ref f_Condition_read :: r_Condition_read))
    (l_Condition_read : K.lookup f_Condition_read = some ⟨oc_Condition_read, od_Condition_read, .func (PySem.W.fnOf "read" "Condition.read" (defArgs s_Condition_read) (defBody s_Condition_read) (defScope s_Condition_read) .none kV_Condition_read dc_Condition_read pm_Condition_read an_Condition_read cd_Condition_read ct_Condition_read), sl_Condition_read⟩)
    (c_Condition_read : PySem.W.codeIn K cd_Condition_read "Condition.read" = true)
    (k_Condition_read : PySem.W.keepIn K (.ref f_Condition_read) = true)
    (a__law_read_it : PySem.W.nsIn K mainGlobals "_law_read_it" = some (some (.ref f__law_read_it)))
    (l__law_read_it : K.lookup f__law_read_it = some ⟨oc__law_read_it, od__law_read_it, .func (PySem.W.fnOf "_law_read_it" "_law_read_it" (defArgs s__law_read_it) (defBody s__law_read_it) (defScope s__law_read_it) .none kV__law_read_it dc__law_read_it pm__law_read_it an__law_read_it cd__law_read_it ct__law_read_it), sl__law_read_it⟩)
    (c__law_read_it : PySem.W.codeIn K cd__law_read_it "_law_read_it" = true)
    (k__law_read_it : PySem.W.keepIn K (.ref f__law_read_it) = true)
    (a__law_chain : PySem.W.nsIn K mainGlobals "_law_chain" = some (some (.ref f__law_chain)))
    (l__law_chain : K.lookup f__law_chain = some ⟨oc__law_chain, od__law_chain, .func (PySem.W.fnOf "_law_chain" "_law_chain" (defArgs s__law_chain) (defBody s__law_chain) (defScope s__law_chain) .none kV__law_chain dc__law_chain pm__law_chain an__law_chain cd__law_chain ct__law_chain), sl__law_chain⟩)
    (c__law_chain : PySem.W.codeIn K cd__law_chain "_law_chain" = true)
    (k__law_chain : PySem.W.keepIn K (.ref f__law_chain) = true)
    (a__law_chain_due : PySem.W.nsIn K mainGlobals "_law_chain_due" = some (some (.ref f__law_chain_due)))
    (l__law_chain_due : K.lookup f__law_chain_due = some ⟨oc__law_chain_due, od__law_chain_due, .func (PySem.W.fnOf "_law_chain_due" "_law_chain_due" (defArgs s__law_chain_due) (defBody s__law_chain_due) (defScope s__law_chain_due) .none kV__law_chain_due dc__law_chain_due pm__law_chain_due an__law_chain_due cd__law_chain_due ct__law_chain_due), sl__law_chain_due⟩)
    (c__law_chain_due : PySem.W.codeIn K cd__law_chain_due "_law_chain_due" = true)
    (k__law_chain_due : PySem.W.keepIn K (.ref f__law_chain_due) = true)
    (a__law_unfit : PySem.W.nsIn K mainGlobals "_law_unfit" = some (some (.ref f__law_unfit)))
    (l__law_unfit : K.lookup f__law_unfit = some ⟨oc__law_unfit, od__law_unfit, .func (PySem.W.fnOf "_law_unfit" "_law_unfit" (defArgs s__law_unfit) (defBody s__law_unfit) (defScope s__law_unfit) .none kV__law_unfit dc__law_unfit pm__law_unfit an__law_unfit cd__law_unfit ct__law_unfit), sl__law_unfit⟩)
    (c__law_unfit : PySem.W.codeIn K cd__law_unfit "_law_unfit" = true)
    (k__law_unfit : PySem.W.keepIn K (.ref f__law_unfit) = true)
    (a__law_asks : PySem.W.nsIn K mainGlobals "_law_asks" = some (some (.ref f__law_asks)))
    (l__law_asks : K.lookup f__law_asks = some ⟨oc__law_asks, od__law_asks, .func (PySem.W.fnOf "_law_asks" "_law_asks" (defArgs s__law_asks) (defBody s__law_asks) (defScope s__law_asks) .none kV__law_asks dc__law_asks pm__law_asks an__law_asks cd__law_asks ct__law_asks), sl__law_asks⟩)
    (c__law_asks : PySem.W.codeIn K cd__law_asks "_law_asks" = true)
    (k__law_asks : PySem.W.keepIn K (.ref f__law_asks) = true)
    (a__law_lets : PySem.W.nsIn K mainGlobals "_law_lets" = some (some (.ref f__law_lets)))
    (l__law_lets : K.lookup f__law_lets = some ⟨oc__law_lets, od__law_lets, .func (PySem.W.fnOf "_law_lets" "_law_lets" (defArgs s__law_lets) (defBody s__law_lets) (defScope s__law_lets) .none kV__law_lets dc__law_lets pm__law_lets an__law_lets cd__law_lets ct__law_lets), sl__law_lets⟩)
    (c__law_lets : PySem.W.codeIn K cd__law_lets "_law_lets" = true)
    (k__law_lets : PySem.W.keepIn K (.ref f__law_lets) = true)
    (a__law_spoils : PySem.W.nsIn K mainGlobals "_law_spoils" = some (some (.ref f__law_spoils)))
    (l__law_spoils : K.lookup f__law_spoils = some ⟨oc__law_spoils, od__law_spoils, .func (PySem.W.fnOf "_law_spoils" "_law_spoils" (defArgs s__law_spoils) (defBody s__law_spoils) (defScope s__law_spoils) .none kV__law_spoils dc__law_spoils pm__law_spoils an__law_spoils cd__law_spoils ct__law_spoils), sl__law_spoils⟩)
    (c__law_spoils : PySem.W.codeIn K cd__law_spoils "_law_spoils" = true)
    (k__law_spoils : PySem.W.keepIn K (.ref f__law_spoils) = true)
    (a__law_deep : PySem.W.nsIn K mainGlobals "_law_deep" = some (some (.ref f__law_deep)))
    (l__law_deep : K.lookup f__law_deep = some ⟨oc__law_deep, od__law_deep, .func (PySem.W.fnOf "_law_deep" "_law_deep" (defArgs s__law_deep) (defBody s__law_deep) (defScope s__law_deep) .none kV__law_deep dc__law_deep pm__law_deep an__law_deep cd__law_deep ct__law_deep), sl__law_deep⟩)
    (c__law_deep : PySem.W.codeIn K cd__law_deep "_law_deep" = true)
    (k__law_deep : PySem.W.keepIn K (.ref f__law_deep) = true)
    (a_law : PySem.W.nsIn K mainGlobals "law" = some (some (.ref f_law)))
    (l_law : K.lookup f_law = some ⟨oc_law, od_law, .func (PySem.W.fnOf "law" "law" (defArgs s_law) (defBody s_law) (defScope s_law) .none kV_law dc_law pm_law an_law cd_law ct_law), sl_law⟩)
    (c_law : PySem.W.codeIn K cd_law "law" = true)
    (k_law : PySem.W.keepIn K (.ref f_law) = true)
    (sg_Condition_always : PySem.W.findCls K (.ref a_Condition) (.type "type") "always" = some (.get (.builtin "staticmethod.__get__") (.ref p_Condition_always) .none (.ref a_Condition)))
    (sr_Condition_always : PySem.W.recIn K p_Condition_always "staticmethod" = some (.ref f_Condition_always :: r_Condition_always))
    (l_Condition_always : K.lookup f_Condition_always = some ⟨oc_Condition_always, od_Condition_always, .func (PySem.W.fnOf "always" "Condition.always" (defArgs s_Condition_always) (defBody s_Condition_always) (defScope s_Condition_always) .none kV_Condition_always dc_Condition_always pm_Condition_always an_Condition_always cd_Condition_always ct_Condition_always), sl_Condition_always⟩)
    (c_Condition_always : PySem.W.codeIn K cd_Condition_always "Condition.always" = true)
    (k_Condition_always : PySem.W.keepIn K (.ref f_Condition_always) = true)
    (sg_Condition_never : PySem.W.findCls K (.ref a_Condition) (.type "type") "never" = some (.get (.builtin "staticmethod.__get__") (.ref p_Condition_never) .none (.ref a_Condition)))
    (sr_Condition_never : PySem.W.recIn K p_Condition_never "staticmethod" = some (.ref f_Condition_never :: r_Condition_never))
    (l_Condition_never : K.lookup f_Condition_never = some ⟨oc_Condition_never, od_Condition_never, .func (PySem.W.fnOf "never" "Condition.never" (defArgs s_Condition_never) (defBody s_Condition_never) (defScope s_Condition_never) .none kV_Condition_never dc_Condition_never pm_Condition_never an_Condition_never cd_Condition_never ct_Condition_never), sl_Condition_never⟩)
    (c_Condition_never : PySem.W.codeIn K cd_Condition_never "Condition.never" = true)
    (k_Condition_never : PySem.W.keepIn K (.ref f_Condition_never) = true)
    (sg_Condition_compare : PySem.W.findCls K (.ref a_Condition) (.type "type") "compare" = some (.get (.builtin "staticmethod.__get__") (.ref p_Condition_compare) .none (.ref a_Condition)))
    (sr_Condition_compare : PySem.W.recIn K p_Condition_compare "staticmethod" = some (.ref f_Condition_compare :: r_Condition_compare))
    (l_Condition_compare : K.lookup f_Condition_compare = some ⟨oc_Condition_compare, od_Condition_compare, .func (PySem.W.fnOf "compare" "Condition.compare" (defArgs s_Condition_compare) (defBody s_Condition_compare) (defScope s_Condition_compare) .none kV_Condition_compare dc_Condition_compare pm_Condition_compare an_Condition_compare cd_Condition_compare ct_Condition_compare), sl_Condition_compare⟩)
    (c_Condition_compare : PySem.W.codeIn K cd_Condition_compare "Condition.compare" = true)
    (k_Condition_compare : PySem.W.keepIn K (.ref f_Condition_compare) = true)
    (z_ValueError : PySem.W.nsIn K mainGlobals "ValueError" = some none)
    (z_all : PySem.W.nsIn K mainGlobals "all" = some none)
    (z_bool : PySem.W.nsIn K mainGlobals "bool" = some none)
    (z_dict : PySem.W.nsIn K mainGlobals "dict" = some none)
    (z_int : PySem.W.nsIn K mainGlobals "int" = some none)
    (z_isinstance : PySem.W.nsIn K mainGlobals "isinstance" = some none)
    (z_len : PySem.W.nsIn K mainGlobals "len" = some none)
    (z_list : PySem.W.nsIn K mainGlobals "list" = some none)
    (z_range : PySem.W.nsIn K mainGlobals "range" = some none)
    (z_sorted : PySem.W.nsIn K mainGlobals "sorted" = some none)
    (z_staticmethod : PySem.W.nsIn K mainGlobals "staticmethod" = some none)
    (z_str : PySem.W.nsIn K mainGlobals "str" = some none)
    (z_super : PySem.W.nsIn K mainGlobals "super" = some none)
    (z_tuple : PySem.W.nsIn K mainGlobals "tuple" = some none)
    (g_BOUND : PySem.W.nsIn K mainGlobals "BOUND" = some (some (.int 1000000000000000000000000000000 t_BOUND)))
    (g_DIGITS : PySem.W.nsIn K mainGlobals "DIGITS" = some (some (.str "0123456789" t_DIGITS)))
    (g_LETTERS : PySem.W.nsIn K mainGlobals "LETTERS" = some (some (.str "abcdefghijklmnopqrstuvwxyz" t_LETTERS)))
    (g_LONGEST_INTEGER : PySem.W.nsIn K mainGlobals "LONGEST_INTEGER" = some (some (.int 32 t_LONGEST_INTEGER)))
    (g_LONGEST_NAME : PySem.W.nsIn K mainGlobals "LONGEST_NAME" = some (some (.int 12 t_LONGEST_NAME)))
    (g_MOST_NESTED : PySem.W.nsIn K mainGlobals "MOST_NESTED" = some (some (.int 20 t_MOST_NESTED)))
    (g_ALWAYS : PySem.W.nsIn K mainGlobals "ALWAYS" = some (some (.ref a_ALWAYS)))
    (l_ALWAYS : K.lookup a_ALWAYS = some ⟨.type "tuple", od_ALWAYS, .seq its_ALWAYS n_ALWAYS, sl_ALWAYS⟩)
    (v_ALWAYS : Vals [(.str "always")] its_ALWAYS.toList)
    (g_MARKS : PySem.W.nsIn K mainGlobals "MARKS" = some (some (.ref a_MARKS)))
    (l_MARKS : K.lookup a_MARKS = some ⟨.type "tuple", od_MARKS, .seq its_MARKS n_MARKS, sl_MARKS⟩)
    (v_MARKS : Vals [(.str "("), (.str ")"), (.str ","), (.str ";"), (.str ":")] its_MARKS.toList)
    (g_NEVER : PySem.W.nsIn K mainGlobals "NEVER" = some (some (.ref a_NEVER)))
    (l_NEVER : K.lookup a_NEVER = some ⟨.type "tuple", od_NEVER, .seq its_NEVER n_NEVER, sl_NEVER⟩)
    (v_NEVER : Vals [(.str "never")] its_NEVER.toList)
    (g_OPPOSITES : PySem.W.nsIn K mainGlobals "OPPOSITES" = some (some (.ref a_OPPOSITES)))
    (g_RESERVED : PySem.W.nsIn K mainGlobals "RESERVED" = some (some (.ref a_RESERVED)))
    (l_RESERVED : K.lookup a_RESERVED = some ⟨.type "tuple", od_RESERVED, .seq its_RESERVED n_RESERVED, sl_RESERVED⟩)
    (v_RESERVED : Vals [(.str "always"), (.str "never"), (.str "and"), (.str "or"), (.str "not"), (.str "when"), (.str "add"), (.str "set"), (.str "change"), (.str "tell"), (.str "refuse"), (.str "take"), (.str "look"), (.str "free"), (.str "lock"), (.str "keep"), (.str "keys"), (.str "fields")] its_RESERVED.toList)
    (g_SIGNS : PySem.W.nsIn K mainGlobals "SIGNS" = some (some (.ref a_SIGNS)))
    (l_SIGNS : K.lookup a_SIGNS = some ⟨.type "tuple", od_SIGNS, .seq its_SIGNS n_SIGNS, sl_SIGNS⟩)
    (v_SIGNS : Vals [(.str "<"), (.str "<="), (.str "=="), (.str "!="), (.str ">="), (.str ">")] its_SIGNS.toList)
    (g_BadName : PySem.W.nsIn K mainGlobals "BadName" = some (some (.ref a_BadName)))
    (g_BadNumber : PySem.W.nsIn K mainGlobals "BadNumber" = some (some (.ref a_BadNumber)))
    (g_BadSign : PySem.W.nsIn K mainGlobals "BadSign" = some (some (.ref a_BadSign)))
    (g_BadText : PySem.W.nsIn K mainGlobals "BadText" = some (some (.ref a_BadText)))
    (g_ElseputError : PySem.W.nsIn K mainGlobals "ElseputError" = some (some (.ref a_ElseputError)))
    (g_TooLarge : PySem.W.nsIn K mainGlobals "TooLarge" = some (some (.ref a_TooLarge)))
    (st_any : PySem.W.nsIn K PySem.cStatics "thirdparty.any" = some none)
    (htop : (l.prog.main.scope.names.lookup ("super" : Str)).isSome = false)
    (xc_BadName : K.lookup a_BadName = some (excClassObj nm_BadName q_BadName a_BadName N_BadName bs_BadName bm_BadName true sn_BadName sub_BadName ab_BadName col_BadName dd_BadName e0_BadName e1_BadName e2_BadName e3_BadName e5_BadName "ValueError.__new__"))
    (ref_BadName : PySem.HandSPX.refsVE bm_BadName = true)
    (sa_BadName : PySem.W.findIn K (.ref a_BadName) "__setattr__" = some (some (.builtin "object.__setattr__")))
    (eb_BadName : PySem.W.subIn K (.ref a_BadName) (.type "BaseException") = some true)
    (ty_BadName : PySem.W.typeIn K (.ref a_BadName) = some (.type "type"))
    (kC_BadName : PySem.W.keepIn K (.ref a_BadName) = true)
    (iC_BadName : PySem.W.findIn K (.ref a_BadName) "__init__" = some (some (.ref f_BadName)))
    (tI_BadName : PySem.W.typeIn K (.ref f_BadName) = some (.type "function"))
    (sup_BadName : PySem.W.ks_superIn K a_BadName a_BadName "__init__" = some (some (.builtin "ValueError.__init__")))
    (sv_BadName : PySem.W.subIn K (.ref a_BadName) (.type "ValueError") = some true)
    (mro_BadName : PySem.W.mroIn K a_BadName (.ref a_BadName) = some true)
    (no0_BadName : PySem.W.findIn K (.ref a_BadName) "name" = some none)
    (ga_BadName : PySem.W.findIn K (.ref a_BadName) "__getattribute__" = some (some (.builtin "BaseException.__getattribute__")))
    (gg_BadName : PySem.W.findIn K (.ref a_BadName) "__getattr__" = some none)
    (hd_BadName : PySem.W.hasDictIn K a_BadName = true)
    (hcl_BadName : PySem.W.findIn K (.ref a_BadName) "__class__" = some (some (.builtin "object.__class__")))
    (hn_BadName : PySem.W.specialIn K (.builtin "object.__class__") "__get__" = some (some (.builtin "getset_descriptor.__get__")))
    (ht_BadName : PySem.W.takesIn K (.builtin "object.__class__") = some true)
    (hm_BadName : PySem.W.mroIn K a_BadName (.type "object") = some true)
    (lf_BadName : K.lookup f_BadName = some ⟨oc_BadName, od_BadName, .func (PySem.W.fnX "__init__" "BadName.__init__" (defArgs s_BadName) (defBody s_BadName) (defScope s_BadName) [("__class__", cc_BadName)] .none .none doc_BadName pm_BadName none (.ref cda_BadName) ct_BadName), osl_BadName⟩)
    (cd_BadName : PySem.W.codeIn K (.ref cda_BadName) "BadName.__init__" = true)
    (lc_BadName : K.lookup cda_BadName = some ⟨ccl_BadName, cdd_BadName, .fields vs_BadName, ccs_BadName⟩)
    (v2_BadName : vs_BadName[2]? = some (.str file_BadName tf_BadName))
    (fe_BadName : ((l.prog.main.file : Str) == file_BadName) = true)
    (lcc_BadName : K.lookup cc_BadName = some ⟨cl_BadName, cld_BadName, .cell (some (.ref a_BadName)), csl_BadName⟩)
    (hD_BadName : PySem.W.clsIn K a_BadName = some cdD_BadName)
    (xc_BadNumber : K.lookup a_BadNumber = some (excClassObj nm_BadNumber q_BadNumber a_BadNumber N_BadNumber bs_BadNumber bm_BadNumber true sn_BadNumber sub_BadNumber ab_BadNumber col_BadNumber dd_BadNumber e0_BadNumber e1_BadNumber e2_BadNumber e3_BadNumber e5_BadNumber "ValueError.__new__"))
    (ref_BadNumber : PySem.HandSPX.refsVE bm_BadNumber = true)
    (sa_BadNumber : PySem.W.findIn K (.ref a_BadNumber) "__setattr__" = some (some (.builtin "object.__setattr__")))
    (eb_BadNumber : PySem.W.subIn K (.ref a_BadNumber) (.type "BaseException") = some true)
    (ty_BadNumber : PySem.W.typeIn K (.ref a_BadNumber) = some (.type "type"))
    (kC_BadNumber : PySem.W.keepIn K (.ref a_BadNumber) = true)
    (iC_BadNumber : PySem.W.findIn K (.ref a_BadNumber) "__init__" = some (some (.ref f_BadNumber)))
    (tI_BadNumber : PySem.W.typeIn K (.ref f_BadNumber) = some (.type "function"))
    (sup_BadNumber : PySem.W.ks_superIn K a_BadNumber a_BadNumber "__init__" = some (some (.builtin "ValueError.__init__")))
    (sv_BadNumber : PySem.W.subIn K (.ref a_BadNumber) (.type "ValueError") = some true)
    (mro_BadNumber : PySem.W.mroIn K a_BadNumber (.ref a_BadNumber) = some true)
    (no0_BadNumber : PySem.W.findIn K (.ref a_BadNumber) "value" = some none)
    (ga_BadNumber : PySem.W.findIn K (.ref a_BadNumber) "__getattribute__" = some (some (.builtin "BaseException.__getattribute__")))
    (gg_BadNumber : PySem.W.findIn K (.ref a_BadNumber) "__getattr__" = some none)
    (hd_BadNumber : PySem.W.hasDictIn K a_BadNumber = true)
    (hcl_BadNumber : PySem.W.findIn K (.ref a_BadNumber) "__class__" = some (some (.builtin "object.__class__")))
    (hn_BadNumber : PySem.W.specialIn K (.builtin "object.__class__") "__get__" = some (some (.builtin "getset_descriptor.__get__")))
    (ht_BadNumber : PySem.W.takesIn K (.builtin "object.__class__") = some true)
    (hm_BadNumber : PySem.W.mroIn K a_BadNumber (.type "object") = some true)
    (lf_BadNumber : K.lookup f_BadNumber = some ⟨oc_BadNumber, od_BadNumber, .func (PySem.W.fnX "__init__" "BadNumber.__init__" (defArgs s_BadNumber) (defBody s_BadNumber) (defScope s_BadNumber) [("__class__", cc_BadNumber)] .none .none doc_BadNumber pm_BadNumber none (.ref cda_BadNumber) ct_BadNumber), osl_BadNumber⟩)
    (cd_BadNumber : PySem.W.codeIn K (.ref cda_BadNumber) "BadNumber.__init__" = true)
    (lc_BadNumber : K.lookup cda_BadNumber = some ⟨ccl_BadNumber, cdd_BadNumber, .fields vs_BadNumber, ccs_BadNumber⟩)
    (v2_BadNumber : vs_BadNumber[2]? = some (.str file_BadNumber tf_BadNumber))
    (fe_BadNumber : ((l.prog.main.file : Str) == file_BadNumber) = true)
    (lcc_BadNumber : K.lookup cc_BadNumber = some ⟨cl_BadNumber, cld_BadNumber, .cell (some (.ref a_BadNumber)), csl_BadNumber⟩)
    (hD_BadNumber : PySem.W.clsIn K a_BadNumber = some cdD_BadNumber)
    (xc_BadSign : K.lookup a_BadSign = some (excClassObj nm_BadSign q_BadSign a_BadSign N_BadSign bs_BadSign bm_BadSign true sn_BadSign sub_BadSign ab_BadSign col_BadSign dd_BadSign e0_BadSign e1_BadSign e2_BadSign e3_BadSign e5_BadSign "ValueError.__new__"))
    (ref_BadSign : PySem.HandSPX.refsVE bm_BadSign = true)
    (sa_BadSign : PySem.W.findIn K (.ref a_BadSign) "__setattr__" = some (some (.builtin "object.__setattr__")))
    (eb_BadSign : PySem.W.subIn K (.ref a_BadSign) (.type "BaseException") = some true)
    (ty_BadSign : PySem.W.typeIn K (.ref a_BadSign) = some (.type "type"))
    (kC_BadSign : PySem.W.keepIn K (.ref a_BadSign) = true)
    (iC_BadSign : PySem.W.findIn K (.ref a_BadSign) "__init__" = some (some (.ref f_BadSign)))
    (tI_BadSign : PySem.W.typeIn K (.ref f_BadSign) = some (.type "function"))
    (sup_BadSign : PySem.W.ks_superIn K a_BadSign a_BadSign "__init__" = some (some (.builtin "ValueError.__init__")))
    (sv_BadSign : PySem.W.subIn K (.ref a_BadSign) (.type "ValueError") = some true)
    (mro_BadSign : PySem.W.mroIn K a_BadSign (.ref a_BadSign) = some true)
    (no0_BadSign : PySem.W.findIn K (.ref a_BadSign) "sign" = some none)
    (ga_BadSign : PySem.W.findIn K (.ref a_BadSign) "__getattribute__" = some (some (.builtin "BaseException.__getattribute__")))
    (gg_BadSign : PySem.W.findIn K (.ref a_BadSign) "__getattr__" = some none)
    (hd_BadSign : PySem.W.hasDictIn K a_BadSign = true)
    (hcl_BadSign : PySem.W.findIn K (.ref a_BadSign) "__class__" = some (some (.builtin "object.__class__")))
    (hn_BadSign : PySem.W.specialIn K (.builtin "object.__class__") "__get__" = some (some (.builtin "getset_descriptor.__get__")))
    (ht_BadSign : PySem.W.takesIn K (.builtin "object.__class__") = some true)
    (hm_BadSign : PySem.W.mroIn K a_BadSign (.type "object") = some true)
    (lf_BadSign : K.lookup f_BadSign = some ⟨oc_BadSign, od_BadSign, .func (PySem.W.fnX "__init__" "BadSign.__init__" (defArgs s_BadSign) (defBody s_BadSign) (defScope s_BadSign) [("__class__", cc_BadSign)] .none .none doc_BadSign pm_BadSign none (.ref cda_BadSign) ct_BadSign), osl_BadSign⟩)
    (cd_BadSign : PySem.W.codeIn K (.ref cda_BadSign) "BadSign.__init__" = true)
    (lc_BadSign : K.lookup cda_BadSign = some ⟨ccl_BadSign, cdd_BadSign, .fields vs_BadSign, ccs_BadSign⟩)
    (v2_BadSign : vs_BadSign[2]? = some (.str file_BadSign tf_BadSign))
    (fe_BadSign : ((l.prog.main.file : Str) == file_BadSign) = true)
    (lcc_BadSign : K.lookup cc_BadSign = some ⟨cl_BadSign, cld_BadSign, .cell (some (.ref a_BadSign)), csl_BadSign⟩)
    (hD_BadSign : PySem.W.clsIn K a_BadSign = some cdD_BadSign)
    (xc_BadText : K.lookup a_BadText = some (excClassObj nm_BadText q_BadText a_BadText N_BadText bs_BadText bm_BadText true sn_BadText sub_BadText ab_BadText col_BadText dd_BadText e0_BadText e1_BadText e2_BadText e3_BadText e5_BadText "ValueError.__new__"))
    (ref_BadText : PySem.HandSPX.refsVE bm_BadText = true)
    (sa_BadText : PySem.W.findIn K (.ref a_BadText) "__setattr__" = some (some (.builtin "object.__setattr__")))
    (eb_BadText : PySem.W.subIn K (.ref a_BadText) (.type "BaseException") = some true)
    (ty_BadText : PySem.W.typeIn K (.ref a_BadText) = some (.type "type"))
    (kC_BadText : PySem.W.keepIn K (.ref a_BadText) = true)
    (iC_BadText : PySem.W.findIn K (.ref a_BadText) "__init__" = some (some (.ref f_BadText)))
    (tI_BadText : PySem.W.typeIn K (.ref f_BadText) = some (.type "function"))
    (sup_BadText : PySem.W.ks_superIn K a_BadText a_BadText "__init__" = some (some (.builtin "ValueError.__init__")))
    (sv_BadText : PySem.W.subIn K (.ref a_BadText) (.type "ValueError") = some true)
    (mro_BadText : PySem.W.mroIn K a_BadText (.ref a_BadText) = some true)
    (no0_BadText : PySem.W.findIn K (.ref a_BadText) "line" = some none)
    (no1_BadText : PySem.W.findIn K (.ref a_BadText) "column" = some none)
    (ga_BadText : PySem.W.findIn K (.ref a_BadText) "__getattribute__" = some (some (.builtin "BaseException.__getattribute__")))
    (gg_BadText : PySem.W.findIn K (.ref a_BadText) "__getattr__" = some none)
    (hd_BadText : PySem.W.hasDictIn K a_BadText = true)
    (hcl_BadText : PySem.W.findIn K (.ref a_BadText) "__class__" = some (some (.builtin "object.__class__")))
    (hn_BadText : PySem.W.specialIn K (.builtin "object.__class__") "__get__" = some (some (.builtin "getset_descriptor.__get__")))
    (ht_BadText : PySem.W.takesIn K (.builtin "object.__class__") = some true)
    (hm_BadText : PySem.W.mroIn K a_BadText (.type "object") = some true)
    (lf_BadText : K.lookup f_BadText = some ⟨oc_BadText, od_BadText, .func (PySem.W.fnX "__init__" "BadText.__init__" (defArgs s_BadText) (defBody s_BadText) (defScope s_BadText) [("__class__", cc_BadText)] .none .none doc_BadText pm_BadText none (.ref cda_BadText) ct_BadText), osl_BadText⟩)
    (cd_BadText : PySem.W.codeIn K (.ref cda_BadText) "BadText.__init__" = true)
    (lc_BadText : K.lookup cda_BadText = some ⟨ccl_BadText, cdd_BadText, .fields vs_BadText, ccs_BadText⟩)
    (v2_BadText : vs_BadText[2]? = some (.str file_BadText tf_BadText))
    (fe_BadText : ((l.prog.main.file : Str) == file_BadText) = true)
    (lcc_BadText : K.lookup cc_BadText = some ⟨cl_BadText, cld_BadText, .cell (some (.ref a_BadText)), csl_BadText⟩)
    (hD_BadText : PySem.W.clsIn K a_BadText = some cdD_BadText)
    (xc_TooLarge : K.lookup a_TooLarge = some (excClassObj nm_TooLarge q_TooLarge a_TooLarge N_TooLarge bs_TooLarge bm_TooLarge true sn_TooLarge sub_TooLarge ab_TooLarge col_TooLarge dd_TooLarge e0_TooLarge e1_TooLarge e2_TooLarge e3_TooLarge e5_TooLarge "ValueError.__new__"))
    (ref_TooLarge : PySem.HandSPX.refsVE bm_TooLarge = true)
    (sa_TooLarge : PySem.W.findIn K (.ref a_TooLarge) "__setattr__" = some (some (.builtin "object.__setattr__")))
    (eb_TooLarge : PySem.W.subIn K (.ref a_TooLarge) (.type "BaseException") = some true)
    (ty_TooLarge : PySem.W.typeIn K (.ref a_TooLarge) = some (.type "type"))
    (kC_TooLarge : PySem.W.keepIn K (.ref a_TooLarge) = true)
    (iC_TooLarge : PySem.W.findIn K (.ref a_TooLarge) "__init__" = some (some (.ref f_TooLarge)))
    (tI_TooLarge : PySem.W.typeIn K (.ref f_TooLarge) = some (.type "function"))
    (sup_TooLarge : PySem.W.ks_superIn K a_TooLarge a_TooLarge "__init__" = some (some (.builtin "ValueError.__init__")))
    (sv_TooLarge : PySem.W.subIn K (.ref a_TooLarge) (.type "ValueError") = some true)
    (mro_TooLarge : PySem.W.mroIn K a_TooLarge (.ref a_TooLarge) = some true)
    (no0_TooLarge : PySem.W.findIn K (.ref a_TooLarge) "most" = some none)
    (ga_TooLarge : PySem.W.findIn K (.ref a_TooLarge) "__getattribute__" = some (some (.builtin "BaseException.__getattribute__")))
    (gg_TooLarge : PySem.W.findIn K (.ref a_TooLarge) "__getattr__" = some none)
    (hd_TooLarge : PySem.W.hasDictIn K a_TooLarge = true)
    (hcl_TooLarge : PySem.W.findIn K (.ref a_TooLarge) "__class__" = some (some (.builtin "object.__class__")))
    (hn_TooLarge : PySem.W.specialIn K (.builtin "object.__class__") "__get__" = some (some (.builtin "getset_descriptor.__get__")))
    (ht_TooLarge : PySem.W.takesIn K (.builtin "object.__class__") = some true)
    (hm_TooLarge : PySem.W.mroIn K a_TooLarge (.type "object") = some true)
    (lf_TooLarge : K.lookup f_TooLarge = some ⟨oc_TooLarge, od_TooLarge, .func (PySem.W.fnX "__init__" "TooLarge.__init__" (defArgs s_TooLarge) (defBody s_TooLarge) (defScope s_TooLarge) [("__class__", cc_TooLarge)] .none .none doc_TooLarge pm_TooLarge none (.ref cda_TooLarge) ct_TooLarge), osl_TooLarge⟩)
    (cd_TooLarge : PySem.W.codeIn K (.ref cda_TooLarge) "TooLarge.__init__" = true)
    (lc_TooLarge : K.lookup cda_TooLarge = some ⟨ccl_TooLarge, cdd_TooLarge, .fields vs_TooLarge, ccs_TooLarge⟩)
    (v2_TooLarge : vs_TooLarge[2]? = some (.str file_TooLarge tf_TooLarge))
    (fe_TooLarge : ((l.prog.main.file : Str) == file_TooLarge) = true)
    (lcc_TooLarge : K.lookup cc_TooLarge = some ⟨cl_TooLarge, cld_TooLarge, .cell (some (.ref a_TooLarge)), csl_TooLarge⟩)
    (hD_TooLarge : PySem.W.clsIn K a_TooLarge = some cdD_TooLarge)
    (mb_ElseputError : PySem.W.subIn K (.ref a_ElseputError) (.type "BaseException") = some true)
    (md_ElseputError : PySem.W.hasDictIn K a_ElseputError = true)
    (mt_ElseputError : PySem.W.typeIn K (.ref a_ElseputError) = some (.type "type"))
    (ms_BadName_ElseputError : PySem.W.subIn K (.ref a_BadName) (.ref a_ElseputError) = some true)
    (ms_BadNumber_ElseputError : PySem.W.subIn K (.ref a_BadNumber) (.ref a_ElseputError) = some true)
    (ms_BadSign_ElseputError : PySem.W.subIn K (.ref a_BadSign) (.ref a_ElseputError) = some true)
    (ms_BadText_ElseputError : PySem.W.subIn K (.ref a_BadText) (.ref a_ElseputError) = some true)
    (ms_TooLarge_ElseputError : PySem.W.subIn K (.ref a_TooLarge) (.ref a_ElseputError) = some true)
    (kit_BadName_BadText : PySem.W.kitOne K (.ref a_BadName) (.ref a_BadText) = some false)
    (kit_BadName_ValueError : PySem.W.kitOne K (.ref a_BadName) (.type "ValueError") = some true)
    (kit_BadName_TooLarge : PySem.W.kitOne K (.ref a_BadName) (.ref a_TooLarge) = some false)
    (kit_BadNumber_BadText : PySem.W.kitOne K (.ref a_BadNumber) (.ref a_BadText) = some false)
    (kit_BadNumber_ValueError : PySem.W.kitOne K (.ref a_BadNumber) (.type "ValueError") = some true)
    (kit_BadNumber_TooLarge : PySem.W.kitOne K (.ref a_BadNumber) (.ref a_TooLarge) = some false)
    (kit_BadSign_BadText : PySem.W.kitOne K (.ref a_BadSign) (.ref a_BadText) = some false)
    (kit_BadSign_ValueError : PySem.W.kitOne K (.ref a_BadSign) (.type "ValueError") = some true)
    (kit_BadSign_TooLarge : PySem.W.kitOne K (.ref a_BadSign) (.ref a_TooLarge) = some false)
    (kit_BadText_BadText : PySem.W.kitOne K (.ref a_BadText) (.ref a_BadText) = some true)
    (kit_BadText_ValueError : PySem.W.kitOne K (.ref a_BadText) (.type "ValueError") = some true)
    (kit_BadText_TooLarge : PySem.W.kitOne K (.ref a_BadText) (.ref a_TooLarge) = some false)
    (kit_TooLarge_BadText : PySem.W.kitOne K (.ref a_TooLarge) (.ref a_BadText) = some false)
    (kit_TooLarge_ValueError : PySem.W.kitOne K (.ref a_TooLarge) (.type "ValueError") = some true)
    (kit_TooLarge_TooLarge : PySem.W.kitOne K (.ref a_TooLarge) (.ref a_TooLarge) = some true)
    (dl_OPPOSITES : K.lookup a_OPPOSITES = some ⟨.type "dict", none, .dict es_OPPOSITES nd_OPPOSITES, #[]⟩)
    (dk_OPPOSITES : PySem.W.KeysLit w.params es_OPPOSITES.toList)
    (dv_OPPOSITES_0 : PySem.W.nsIn K a_OPPOSITES "<" = some (some (.str ">=" tk_OPPOSITES_0)))
    (dv_OPPOSITES_1 : PySem.W.nsIn K a_OPPOSITES ">=" = some (some (.str "<" tk_OPPOSITES_1)))
    (dv_OPPOSITES_2 : PySem.W.nsIn K a_OPPOSITES "<=" = some (some (.str ">" tk_OPPOSITES_2)))
    (dv_OPPOSITES_3 : PySem.W.nsIn K a_OPPOSITES ">" = some (some (.str "<=" tk_OPPOSITES_3)))
    (dv_OPPOSITES_4 : PySem.W.nsIn K a_OPPOSITES "==" = some (some (.str "!=" tk_OPPOSITES_4)))
    (dv_OPPOSITES_5 : PySem.W.nsIn K a_OPPOSITES "!=" = some (some (.str "==" tk_OPPOSITES_5)))
    : ∃ fd : FuncData, (∀ (s : Shared) (v : Value), BindsTo s fd ⟨[v], []⟩ [("_law_script", v)]) ∧ ∀ base : Heap, K.In base → base.Ns mainGlobals mg → FnOk l.prog w K mg base CX0 95 fa fd ["_law_script"] (spLaw K) := by
  have e := hfa.symm.trans (PySem.W.mg_of X G a_law)
  cases e
  have XK_BadName : ExK K a_BadName f_BadName ["name"] := exk_mk xc_BadName ref_BadName sa_BadName eb_BadName ty_BadName kC_BadName sup_BadName sv_BadName mro_BadName iC_BadName tI_BadName (fun f hf => by simp only [List.mem_cons, List.not_mem_nil, or_false] at hf; subst hf; exact no0_BadName) ga_BadName gg_BadName hd_BadName hcl_BadName hn_BadName ht_BadName hm_BadName
  have XK_BadNumber : ExK K a_BadNumber f_BadNumber ["value"] := exk_mk xc_BadNumber ref_BadNumber sa_BadNumber eb_BadNumber ty_BadNumber kC_BadNumber sup_BadNumber sv_BadNumber mro_BadNumber iC_BadNumber tI_BadNumber (fun f hf => by simp only [List.mem_cons, List.not_mem_nil, or_false] at hf; subst hf; exact no0_BadNumber) ga_BadNumber gg_BadNumber hd_BadNumber hcl_BadNumber hn_BadNumber ht_BadNumber hm_BadNumber
  have XK_BadSign : ExK K a_BadSign f_BadSign ["sign"] := exk_mk xc_BadSign ref_BadSign sa_BadSign eb_BadSign ty_BadSign kC_BadSign sup_BadSign sv_BadSign mro_BadSign iC_BadSign tI_BadSign (fun f hf => by simp only [List.mem_cons, List.not_mem_nil, or_false] at hf; subst hf; exact no0_BadSign) ga_BadSign gg_BadSign hd_BadSign hcl_BadSign hn_BadSign ht_BadSign hm_BadSign
  have XK_BadText : ExK K a_BadText f_BadText ["line", "column"] := exk_mk xc_BadText ref_BadText sa_BadText eb_BadText ty_BadText kC_BadText sup_BadText sv_BadText mro_BadText iC_BadText tI_BadText (fun f hf => by simp only [List.mem_cons, List.not_mem_nil, or_false] at hf; rcases hf with rfl | rfl; exact no0_BadText; exact no1_BadText) ga_BadText gg_BadText hd_BadText hcl_BadText hn_BadText ht_BadText hm_BadText
  have XK_TooLarge : ExK K a_TooLarge f_TooLarge ["most"] := exk_mk xc_TooLarge ref_TooLarge sa_TooLarge eb_TooLarge ty_TooLarge kC_TooLarge sup_TooLarge sv_TooLarge mro_TooLarge iC_TooLarge tI_TooLarge (fun f hf => by simp only [List.mem_cons, List.not_mem_nil, or_false] at hf; subst hf; exact no0_TooLarge) ga_TooLarge gg_TooLarge hd_TooLarge hcl_TooLarge hn_TooLarge ht_TooLarge hm_TooLarge
  have T : Gs K mg t_BOUND t_DIGITS t_LETTERS t_LONGEST_INTEGER t_LONGEST_NAME t_MOST_NESTED a_ALWAYS a_MARKS a_NEVER a_OPPOSITES a_RESERVED a_SIGNS a_BadName a_BadNumber a_BadSign a_BadText a_Condition a_ElseputError a_Reader a_TooLarge := { z_ValueError := PySem.W.mg_none_of X G z_ValueError, z_all := PySem.W.mg_none_of X G z_all, z_bool := PySem.W.mg_none_of X G z_bool, z_dict := PySem.W.mg_none_of X G z_dict, z_int := PySem.W.mg_none_of X G z_int, z_isinstance := PySem.W.mg_none_of X G z_isinstance, z_len := PySem.W.mg_none_of X G z_len, z_list := PySem.W.mg_none_of X G z_list, z_range := PySem.W.mg_none_of X G z_range, z_sorted := PySem.W.mg_none_of X G z_sorted, z_staticmethod := PySem.W.mg_none_of X G z_staticmethod, z_str := PySem.W.mg_none_of X G z_str, z_super := PySem.W.mg_none_of X G z_super, z_tuple := PySem.W.mg_none_of X G z_tuple, g_BOUND := PySem.W.mg_of X G g_BOUND, g_DIGITS := PySem.W.mg_of X G g_DIGITS, g_LETTERS := PySem.W.mg_of X G g_LETTERS, g_LONGEST_INTEGER := PySem.W.mg_of X G g_LONGEST_INTEGER, g_LONGEST_NAME := PySem.W.mg_of X G g_LONGEST_NAME, g_MOST_NESTED := PySem.W.mg_of X G g_MOST_NESTED, g_ALWAYS := PySem.W.mg_of X G g_ALWAYS, g_MARKS := PySem.W.mg_of X G g_MARKS, g_NEVER := PySem.W.mg_of X G g_NEVER, g_OPPOSITES := PySem.W.mg_of X G g_OPPOSITES, g_RESERVED := PySem.W.mg_of X G g_RESERVED, g_SIGNS := PySem.W.mg_of X G g_SIGNS, g_BadName := PySem.W.mg_of X G g_BadName, g_BadNumber := PySem.W.mg_of X G g_BadNumber, g_BadSign := PySem.W.mg_of X G g_BadSign, g_BadText := PySem.W.mg_of X G g_BadText, g_Condition := PySem.W.mg_of X G g_Condition, g_ElseputError := PySem.W.mg_of X G g_ElseputError, g_Reader := PySem.W.mg_of X G g_Reader, g_TooLarge := PySem.W.mg_of X G g_TooLarge, q_ALWAYS := fun _ => .inr ⟨_, _, _, l_ALWAYS, rfl, rfl, (by have e : _ = its_ALWAYS.size := v_ALWAYS.length.trans Array.length_toList; rw [← e]; decide), v_ALWAYS⟩, q_MARKS := fun _ => .inr ⟨_, _, _, l_MARKS, rfl, rfl, (by have e : _ = its_MARKS.size := v_MARKS.length.trans Array.length_toList; rw [← e]; decide), v_MARKS⟩, q_NEVER := fun _ => .inr ⟨_, _, _, l_NEVER, rfl, rfl, (by have e : _ = its_NEVER.size := v_NEVER.length.trans Array.length_toList; rw [← e]; decide), v_NEVER⟩, q_RESERVED := fun _ => .inr ⟨_, _, _, l_RESERVED, rfl, rfl, (by have e : _ = its_RESERVED.size := v_RESERVED.length.trans Array.length_toList; rw [← e]; decide), v_RESERVED⟩, q_SIGNS := fun _ => .inr ⟨_, _, _, l_SIGNS, rfl, rfl, (by have e : _ = its_SIGNS.size := v_SIGNS.length.trans Array.length_toList; rw [← e]; decide), v_SIGNS⟩, n_ElseputError := g_ElseputError, n_BadName := g_BadName, n_BadNumber := g_BadNumber, n_BadSign := g_BadSign, n_BadText := g_BadText, n_TooLarge := g_TooLarge, n_Reader := g_Reader, n_Condition := g_Condition, x_BadName := ⟨XK_BadName.no, XK_BadName.xf, XK_BadName.is⟩, x_BadNumber := ⟨XK_BadNumber.no, XK_BadNumber.xf, XK_BadNumber.is⟩, x_BadSign := ⟨XK_BadSign.no, XK_BadSign.xf, XK_BadSign.is⟩, x_BadText := ⟨XK_BadText.no, XK_BadText.xf, XK_BadText.is⟩, x_TooLarge := ⟨XK_TooLarge.no, XK_TooLarge.xf, XK_TooLarge.is⟩, cl_Reader := ⟨pg_Reader, hx_Reader, po_Reader, st_Reader⟩, rd_Reader := ⟨rr_Reader, rg_Reader⟩, na_Reader__at := na_Reader__at, na_Reader__end := na_Reader__end, na_Reader__number := na_Reader__number, na_Reader__parts := na_Reader__parts, cl_Condition := ⟨pg_Condition, hx_Condition, po_Condition, st_Condition⟩, rd_Condition := ⟨rr_Condition, rg_Condition⟩, na_Condition__fields := na_Condition__fields, na_Condition_tree := na_Condition_tree, cv_Condition_MOST := ⟨_, cv_Condition_MOST, ⟨_, rfl⟩⟩, m_BadName_ElseputError := PySem.W.exm_ref mb_ElseputError md_ElseputError mt_ElseputError ms_BadName_ElseputError, m_BadNumber_ElseputError := PySem.W.exm_ref mb_ElseputError md_ElseputError mt_ElseputError ms_BadNumber_ElseputError, m_BadSign_ElseputError := PySem.W.exm_ref mb_ElseputError md_ElseputError mt_ElseputError ms_BadSign_ElseputError, m_BadText_ElseputError := PySem.W.exm_ref mb_ElseputError md_ElseputError mt_ElseputError ms_BadText_ElseputError, m_TooLarge_ElseputError := PySem.W.exm_ref mb_ElseputError md_ElseputError mt_ElseputError ms_TooLarge_ElseputError, k_BadName_BadText := kit_BadName_BadText, k_BadName_ValueError := kit_BadName_ValueError, k_BadName_TooLarge := kit_BadName_TooLarge, k_BadNumber_BadText := kit_BadNumber_BadText, k_BadNumber_ValueError := kit_BadNumber_ValueError, k_BadNumber_TooLarge := kit_BadNumber_TooLarge, k_BadSign_BadText := kit_BadSign_BadText, k_BadSign_ValueError := kit_BadSign_ValueError, k_BadSign_TooLarge := kit_BadSign_TooLarge, k_BadText_BadText := kit_BadText_BadText, k_BadText_ValueError := kit_BadText_ValueError, k_BadText_TooLarge := kit_BadText_TooLarge, k_TooLarge_BadText := kit_TooLarge_BadText, k_TooLarge_ValueError := kit_TooLarge_ValueError, k_TooLarge_TooLarge := kit_TooLarge_TooLarge }
  have F_is_name := fun_mk (st := s_is_name) l_is_name c_is_name k_is_name
  have b_is_name := F_is_name.binds (ps := ["text"]) fun _ _ _ _ _ _ us hl => match us, hl with | [_], _ => rfl
  have F_run_end := fun_mk (st := s_run_end) l_run_end c_run_end k_run_end
  have b_run_end := F_run_end.binds (ps := ["line", "at", "characters"]) fun _ _ _ _ _ _ us hl => match us, hl with | [_, _, _], _ => rfl
  have F_token_end := fun_mk (st := s_token_end) l_token_end c_token_end k_token_end
  have b_token_end := F_token_end.binds (ps := ["line", "at"]) fun _ _ _ _ _ _ us hl => match us, hl with | [_, _], _ => rfl
  have F_split_line := fun_mk (st := s_split_line) l_split_line c_split_line k_split_line
  have b_split_line := F_split_line.binds (ps := ["line", "number"]) fun _ _ _ _ _ _ us hl => match us, hl with | [_, _], _ => rfl
  have F_in_bound := fun_mk (st := s_in_bound) l_in_bound c_in_bound k_in_bound
  have b_in_bound := F_in_bound.binds (ps := ["value"]) fun _ _ _ _ _ _ us hl => match us, hl with | [_], _ => rfl
  have F_check_name := fun_mk (st := s_check_name) l_check_name c_check_name k_check_name
  have b_check_name := F_check_name.binds (ps := ["text"]) fun _ _ _ _ _ _ us hl => match us, hl with | [_], _ => rfl
  have F_check_number := fun_mk (st := s_check_number) l_check_number c_check_number k_check_number
  have b_check_number := F_check_number.binds (ps := ["value"]) fun _ _ _ _ _ _ us hl => match us, hl with | [_], _ => rfl
  have F_is_integer := fun_mk (st := s_is_integer) l_is_integer c_is_integer k_is_integer
  have b_is_integer := F_is_integer.binds (ps := ["token"]) fun _ _ _ _ _ _ us hl => match us, hl with | [_], _ => rfl
  have F_comparisons := fun_mk (st := s_comparisons) l_comparisons c_comparisons k_comparisons
  have b_comparisons := F_comparisons.binds (ps := ["tree"]) fun _ _ _ _ _ _ us hl => match us, hl with | [_], _ => rfl
  have F_joined_tree := fun_mk (st := s_joined_tree) l_joined_tree c_joined_tree k_joined_tree
  have b_joined_tree := F_joined_tree.binds (ps := ["word", "left", "right"]) fun _ _ _ _ _ _ us hl => match us, hl with | [_, _, _], _ => rfl
  have F_Condition___init__ := fun_mk (st := s_Condition___init__) l_Condition___init__ c_Condition___init__ k_Condition___init__
  have b_Condition___init__ := F_Condition___init__.binds (ps := ["self", "tree"]) fun _ _ _ _ _ _ us hl => match us, hl with | [_, _], _ => rfl
  have F_joined := fun_mk (st := s_joined) l_joined c_joined k_joined
  have b_joined := F_joined.binds (ps := ["word", "left", "right"]) fun _ _ _ _ _ _ us hl => match us, hl with | [_, _, _], _ => rfl
  have F_opposite := fun_mk (st := s_opposite) l_opposite c_opposite k_opposite
  have b_opposite := F_opposite.binds (ps := ["tree"]) fun _ _ _ _ _ _ us hl => match us, hl with | [_], _ => rfl
  have F_Reader_at_end := fun_mk (st := s_Reader_at_end) l_Reader_at_end c_Reader_at_end k_Reader_at_end
  have b_Reader_at_end := F_Reader_at_end.binds (ps := ["self"]) fun _ _ _ _ _ _ us hl => match us, hl with | [_], _ => rfl
  have F_Reader_ahead := fun_mk (st := s_Reader_ahead) l_Reader_ahead c_Reader_ahead k_Reader_ahead
  have b_Reader_ahead := F_Reader_ahead.binds (ps := ["self"]) fun _ _ _ _ _ _ us hl => match us, hl with | [_], _ => rfl
  have F_Reader_skip := fun_mk (st := s_Reader_skip) l_Reader_skip c_Reader_skip k_Reader_skip
  have b_Reader_skip := F_Reader_skip.binds (ps := ["self", "token"]) fun _ _ _ _ _ _ us hl => match us, hl with | [_, _], _ => rfl
  have F_Reader__refuse := fun_mk (st := s_Reader__refuse) l_Reader__refuse c_Reader__refuse k_Reader__refuse
  have b_Reader__refuse := F_Reader__refuse.binds (ps := ["self"]) fun _ _ _ _ _ _ us hl => match us, hl with | [_], _ => rfl
  have F_Reader__take_if := fun_mk (st := s_Reader__take_if) l_Reader__take_if c_Reader__take_if k_Reader__take_if
  have b_Reader__take_if := F_Reader__take_if.binds (ps := ["self", "fits"]) fun _ _ _ _ _ _ us hl => match us, hl with | [_, _], _ => rfl
  have F_Reader_take_one := fun_mk (st := s_Reader_take_one) l_Reader_take_one c_Reader_take_one k_Reader_take_one
  have b_Reader_take_one := F_Reader_take_one.binds (ps := ["self", "words"]) fun _ _ _ _ _ _ us hl => match us, hl with | [_, _], _ => rfl
  have F_Reader_take_name := fun_mk (st := s_Reader_take_name) l_Reader_take_name c_Reader_take_name k_Reader_take_name
  have b_Reader_take_name := F_Reader_take_name.binds (ps := ["self"]) fun _ _ _ _ _ _ us hl => match us, hl with | [_], _ => rfl
  have F_Reader_take_integer := fun_mk (st := s_Reader_take_integer) l_Reader_take_integer c_Reader_take_integer k_Reader_take_integer
  have b_Reader_take_integer := F_Reader_take_integer.binds (ps := ["self"]) fun _ _ _ _ _ _ us hl => match us, hl with | [_], _ => rfl
  have F_parse_factor := fun_mk (st := s_parse_factor) l_parse_factor c_parse_factor k_parse_factor
  have b_parse_factor := F_parse_factor.binds (ps := ["reader", "depth"]) fun _ _ _ _ _ _ us hl => match us, hl with | [_, _], _ => rfl
  have F_parse_conjunction := fun_mk (st := s_parse_conjunction) l_parse_conjunction c_parse_conjunction k_parse_conjunction
  have b_parse_conjunction := F_parse_conjunction.binds (ps := ["reader", "depth"]) fun _ _ _ _ _ _ us hl => match us, hl with | [_, _], _ => rfl
  have F_parse_condition := fund_mk (st := s_parse_condition) (dvs := [(.int 0)]) l_parse_condition c_parse_condition k_parse_condition ld_parse_condition v_d_parse_condition (by simp)
  have b_parse_condition := F_parse_condition.binds1 (ps := ["reader", "depth"]) 1 0 (by simp) (by rfl) fun _ _ _ _ _ _ _ us its hu hi => match us, hu, its, hi with | [_], _, [_], _ => ⟨_, rfl, rfl⟩
  have bb_parse_condition := binds_nil (F_parse_condition.binds1 (ps := ["reader", "depth"]) 2 1 (by simp) (by rfl) fun _ _ _ _ _ _ _ us its hu hi => match us, hu, its, hi with | [_, _], _, [_], _ => ⟨_, rfl, rfl⟩)
  have F_Condition___and__ := fun_mk (st := s_Condition___and__) l_Condition___and__ c_Condition___and__ k_Condition___and__
  have b_Condition___and__ := F_Condition___and__.binds (ps := ["self", "other"]) fun _ _ _ _ _ _ us hl => match us, hl with | [_, _], _ => rfl
  have F_Condition___or__ := fun_mk (st := s_Condition___or__) l_Condition___or__ c_Condition___or__ k_Condition___or__
  have b_Condition___or__ := F_Condition___or__.binds (ps := ["self", "other"]) fun _ _ _ _ _ _ us hl => match us, hl with | [_, _], _ => rfl
  have F_join_all := fun_mk (st := s_join_all) l_join_all c_join_all k_join_all
  have b_join_all := F_join_all.binds (ps := ["word", "parts"]) fun _ _ _ _ _ _ us hl => match us, hl with | [_, _], _ => rfl
  have F_Condition___invert__ := fun_mk (st := s_Condition___invert__) l_Condition___invert__ c_Condition___invert__ k_Condition___invert__
  have b_Condition___invert__ := F_Condition___invert__.binds (ps := ["self"]) fun _ _ _ _ _ _ us hl => match us, hl with | [_], _ => rfl
  have F_build_condition := fun_mk (st := s_build_condition) l_build_condition c_build_condition k_build_condition
  have b_build_condition := F_build_condition.binds (ps := ["parsed"]) fun _ _ _ _ _ _ us hl => match us, hl with | [_], _ => rfl
  have F__law_state := fun_mk (st := s__law_state) l__law_state c__law_state k__law_state
  have b__law_state := F__law_state.binds (ps := ["_law_script"]) fun _ _ _ _ _ _ us hl => match us, hl with | [_], _ => rfl
  have F__law_draw := fun_mk (st := s__law_draw) l__law_draw c__law_draw k__law_draw
  have b__law_draw := F__law_draw.binds (ps := ["_law_state_here", "_law_many"]) fun _ _ _ _ _ _ us hl => match us, hl with | [_, _], _ => rfl
  have F__law_pick := fun_mk (st := s__law_pick) l__law_pick c__law_pick k__law_pick
  have b__law_pick := F__law_pick.binds (ps := ["_law_state_here", "_law_row"]) fun _ _ _ _ _ _ us hl => match us, hl with | [_, _], _ => rfl
  have F__law_number := fun_mk (st := s__law_number) l__law_number c__law_number k__law_number
  have b__law_number := F__law_number.binds (ps := ["_law_state_here"]) fun _ _ _ _ _ _ us hl => match us, hl with | [_], _ => rfl
  have F__law_constant := fun_mk (st := s__law_constant) l__law_constant c__law_constant k__law_constant
  have b__law_constant := F__law_constant.binds (ps := ["_law_state_here"]) fun _ _ _ _ _ _ us hl => match us, hl with | [_], _ => rfl
  have F__law_names := fun_mk (st := s__law_names) l__law_names c__law_names k__law_names
  have b__law_names := F__law_names.binds (ps := ["_law_state_here", "_law_many"]) fun _ _ _ _ _ _ us hl => match us, hl with | [_, _], _ => rfl
  have F__law_is_int := fun_mk (st := s__law_is_int) l__law_is_int c__law_is_int k__law_is_int
  have b__law_is_int := F__law_is_int.binds (ps := ["_law_thing"]) fun _ _ _ _ _ _ us hl => match us, hl with | [_], _ => rfl
  have F__law_same := fun_mk (st := s__law_same) l__law_same c__law_same k__law_same
  have b__law_same := F__law_same.binds (ps := ["_law_actual", "_law_due"]) fun _ _ _ _ _ _ us hl => match us, hl with | [_, _], _ => rfl
  have F__law_joined := fun_mk (st := s__law_joined) l__law_joined c__law_joined k__law_joined
  have b__law_joined := F__law_joined.binds (ps := ["_law_parts", "_law_gap"]) fun _ _ _ _ _ _ us hl => match us, hl with | [_, _], _ => rfl
  have F__law_leaves := fun_mk (st := s__law_leaves) l__law_leaves c__law_leaves k__law_leaves
  have b__law_leaves := F__law_leaves.binds (ps := ["_law_state_here", "_law_fields", "_law_many"]) fun _ _ _ _ _ _ us hl => match us, hl with | [_, _, _], _ => rfl
  have F__law_opposite := fun_mk (st := s__law_opposite) l__law_opposite c__law_opposite k__law_opposite
  have b__law_opposite := F__law_opposite.binds (ps := ["_law_tree"]) fun _ _ _ _ _ _ us hl => match us, hl with | [_], _ => rfl
  have F_Reader___init__ := fund_mk (st := s_Reader___init__) (dvs := [(.int 1)]) l_Reader___init__ c_Reader___init__ k_Reader___init__ ld_Reader___init__ v_d_Reader___init__ (by simp)
  have b_Reader___init__ := F_Reader___init__.binds1 (ps := ["self", "line", "number"]) 2 0 (by simp) (by rfl) fun _ _ _ _ _ _ _ us its hu hi => match us, hu, its, hi with | [_, _], _, [_], _ => ⟨_, rfl, rfl⟩
  have F_Reader_take_end := fun_mk (st := s_Reader_take_end) l_Reader_take_end c_Reader_take_end k_Reader_take_end
  have b_Reader_take_end := F_Reader_take_end.binds (ps := ["self"]) fun _ _ _ _ _ _ us hl => match us, hl with | [_], _ => rfl
  have F_Condition_read := fun_mk (st := s_Condition_read) l_Condition_read c_Condition_read k_Condition_read
  have b_Condition_read := F_Condition_read.binds (ps := ["line"]) fun _ _ _ _ _ _ us hl => match us, hl with | [_], _ => rfl
  have F__law_read_it := fun_mk (st := s__law_read_it) l__law_read_it c__law_read_it k__law_read_it
  have b__law_read_it := F__law_read_it.binds (ps := ["_law_line"]) fun _ _ _ _ _ _ us hl => match us, hl with | [_], _ => rfl
  have F__law_chain := fun_mk (st := s__law_chain) l__law_chain c__law_chain k__law_chain
  have b__law_chain := F__law_chain.binds (ps := ["_law_comps", "_law_joiners"]) fun _ _ _ _ _ _ us hl => match us, hl with | [_, _], _ => rfl
  have F__law_chain_due := fun_mk (st := s__law_chain_due) l__law_chain_due c__law_chain_due k__law_chain_due
  have b__law_chain_due := F__law_chain_due.binds (ps := ["_law_comps", "_law_joiners"]) fun _ _ _ _ _ _ us hl => match us, hl with | [_, _], _ => rfl
  have F__law_unfit := fun_mk (st := s__law_unfit) l__law_unfit c__law_unfit k__law_unfit
  have b__law_unfit := F__law_unfit.binds (ps := ["_law_at"]) fun _ _ _ _ _ _ us hl => match us, hl with | [_], _ => rfl
  have F__law_asks := fun_mk (st := s__law_asks) l__law_asks c__law_asks k__law_asks
  have b__law_asks := F__law_asks.binds (ps := ["_law_state_here", "_law_words", "_law_at"]) fun _ _ _ _ _ _ us hl => match us, hl with | [_, _, _], _ => rfl
  have F__law_lets := fun_mk (st := s__law_lets) l__law_lets c__law_lets k__law_lets
  have b__law_lets := F__law_lets.binds (ps := ["_law_state_here", "_law_words", "_law_due"]) fun _ _ _ _ _ _ us hl => match us, hl with | [_, _, _], _ => rfl
  have F__law_spoils := fun_mk (st := s__law_spoils) l__law_spoils c__law_spoils k__law_spoils
  have b__law_spoils := F__law_spoils.binds (ps := ["_law_state_here", "_law_words", "_law_i"]) fun _ _ _ _ _ _ us hl => match us, hl with | [_, _, _], _ => rfl
  have F__law_deep := fun_mk (st := s__law_deep) l__law_deep c__law_deep k__law_deep
  have b__law_deep := F__law_deep.binds (ps := ["_law_state_here", "_law_comps"]) fun _ _ _ _ _ _ us hl => match us, hl with | [_, _], _ => rfl
  have F_law := fun_mk (st := s_law) l_law c_law k_law
  have b_law := F_law.binds (ps := ["_law_script"]) fun _ _ _ _ _ _ us hl => match us, hl with | [_], _ => rfl
  have F_Condition_always := fun_mk (st := s_Condition_always) l_Condition_always c_Condition_always k_Condition_always
  have b_Condition_always := F_Condition_always.binds (ps := []) fun _ _ _ _ _ _ us hl => match us, hl with | [], _ => rfl
  have F_Condition_never := fun_mk (st := s_Condition_never) l_Condition_never c_Condition_never k_Condition_never
  have b_Condition_never := F_Condition_never.binds (ps := []) fun _ _ _ _ _ _ us hl => match us, hl with | [], _ => rfl
  have F_Condition_compare := fun_mk (st := s_Condition_compare) l_Condition_compare c_Condition_compare k_Condition_compare
  have b_Condition_compare := F_Condition_compare.binds (ps := ["field", "sign", "number"]) fun _ _ _ _ _ _ us hl => match us, hl with | [_, _, _], _ => rfl
  refine ⟨PySem.W.fnOf "law" "law" (defArgs s_law) (defBody s_law) (defScope s_law) .none kV_law dc_law pm_law an_law cd_law ct_law, fun s v => .of_eq rfl, fun base _ _ => ?_⟩
  have C_BadName : CalE l.prog w K mg base 1 "BadName" a_BadName f_BadName _ ["self", "name"] okx_BadName fs_BadName ["name"] := ⟨ok_BadName XK_BadName lf_BadName cd_BadName lc_BadName v2_BadName fe_BadName lcc_BadName hD_BadName (PySem.W.mg_none_of X G z_super) st_any htop, .all fun us hl => (match us, hl with | [_, _], _ => rfl), XK_BadName, PySem.W.mg_of X G g_BadName⟩
  have C_BadNumber : CalE l.prog w K mg base 1 "BadNumber" a_BadNumber f_BadNumber _ ["self", "value"] okx_BadNumber fs_BadNumber ["value"] := ⟨ok_BadNumber XK_BadNumber lf_BadNumber cd_BadNumber lc_BadNumber v2_BadNumber fe_BadNumber lcc_BadNumber hD_BadNumber (PySem.W.mg_none_of X G z_super) st_any htop, .all fun us hl => (match us, hl with | [_, _], _ => rfl), XK_BadNumber, PySem.W.mg_of X G g_BadNumber⟩
  have C_BadSign : CalE l.prog w K mg base 1 "BadSign" a_BadSign f_BadSign _ ["self", "sign"] okx_BadSign fs_BadSign ["sign"] := ⟨ok_BadSign XK_BadSign lf_BadSign cd_BadSign lc_BadSign v2_BadSign fe_BadSign lcc_BadSign hD_BadSign (PySem.W.mg_none_of X G z_super) st_any htop, .all fun us hl => (match us, hl with | [_, _], _ => rfl), XK_BadSign, PySem.W.mg_of X G g_BadSign⟩
  have C_BadText : CalE l.prog w K mg base 1 "BadText" a_BadText f_BadText _ ["self", "line", "column"] okx_BadText fs_BadText ["line", "column"] := ⟨ok_BadText XK_BadText lf_BadText cd_BadText lc_BadText v2_BadText fe_BadText lcc_BadText hD_BadText (PySem.W.mg_none_of X G z_super) st_any htop, .all fun us hl => (match us, hl with | [_, _, _], _ => rfl), XK_BadText, PySem.W.mg_of X G g_BadText⟩
  have C_TooLarge : CalE l.prog w K mg base 1 "TooLarge" a_TooLarge f_TooLarge _ ["self", "most"] okx_TooLarge fs_TooLarge ["most"] := ⟨ok_TooLarge XK_TooLarge lf_TooLarge cd_TooLarge lc_TooLarge v2_TooLarge fe_TooLarge lcc_TooLarge hD_TooLarge (PySem.W.mg_none_of X G z_super) st_any htop, .all fun us hl => (match us, hl with | [_, _], _ => rfl), XK_TooLarge, PySem.W.mg_of X G g_TooLarge⟩
  have C_is_name : Cal l.prog w K mg base CX0 1 "is_name" f_is_name _ ["text"] (sp_is_name K) := ⟨ok_is_name F_is_name T, b_is_name, k_is_name, PySem.W.mg_of X G a_is_name⟩
  have C_run_end : Cal l.prog w K mg base CX0 1 "run_end" f_run_end _ ["line", "at", "characters"] (sp_run_end K) := ⟨ok_run_end F_run_end T, b_run_end, k_run_end, PySem.W.mg_of X G a_run_end⟩
  have C_token_end : Cal l.prog w K mg base CX0 2 "token_end" f_token_end _ ["line", "at"] (sp_token_end K) := ⟨ok_token_end F_token_end T C_run_end, b_token_end, k_token_end, PySem.W.mg_of X G a_token_end⟩
  have C_split_line : Cal l.prog w K mg base (L2.CX l.prog w) 3 "split_line" f_split_line _ ["line", "number"] (sp_split_line K) := ⟨ok_split_line F_split_line T C_token_end C_BadText, b_split_line, k_split_line, PySem.W.mg_of X G a_split_line⟩
  have C_in_bound : Cal l.prog w K mg base CX0 1 "in_bound" f_in_bound _ ["value"] (sp_in_bound K) := ⟨ok_in_bound F_in_bound T, b_in_bound, k_in_bound, PySem.W.mg_of X G a_in_bound⟩
  have C_check_name : Cal l.prog w K mg base (L2.CX l.prog w) 3 "check_name" f_check_name _ ["text"] (sp_check_name K) := ⟨ok_check_name F_check_name T C_is_name C_BadName, b_check_name, k_check_name, PySem.W.mg_of X G a_check_name⟩
  have C_check_number : Cal l.prog w K mg base (L2.CX l.prog w) 3 "check_number" f_check_number _ ["value"] (sp_check_number K) := ⟨ok_check_number F_check_number T C_in_bound C_BadNumber, b_check_number, k_check_number, PySem.W.mg_of X G a_check_number⟩
  have C_is_integer : Cal l.prog w K mg base CX0 2 "is_integer" f_is_integer _ ["token"] (sp_is_integer K) := ⟨ok_is_integer F_is_integer T C_in_bound, b_is_integer, k_is_integer, PySem.W.mg_of X G a_is_integer⟩
  have C_comparisons : Cal l.prog w K mg base CX0 22 "comparisons" f_comparisons _ ["tree"] (sp_comparisons K) := ⟨ok_comparisons F_comparisons T b_comparisons k_comparisons (PySem.W.mg_of X G a_comparisons), b_comparisons, k_comparisons, PySem.W.mg_of X G a_comparisons⟩
  have C_joined_tree : Cal l.prog w K mg base CX0 1 "joined_tree" f_joined_tree _ ["word", "left", "right"] (sp_joined_tree K) := ⟨ok_joined_tree F_joined_tree T, b_joined_tree, k_joined_tree, PySem.W.mg_of X G a_joined_tree⟩
  have C_Condition___init__ : CalI l.prog w K mg base CX0 23 "Condition" a_Condition f_Condition___init__ _ ["self", "tree"] (sp_Condition___init__ K) := ⟨⟨ok_Condition___init__ F_Condition___init__ T C_comparisons, b_Condition___init__⟩, ⟨mi_Condition, fa_Condition___init__, fn_Condition___init__, ko_Condition⟩, PySem.W.mg_of X G g_Condition⟩
  have C_joined : Cal l.prog w K mg base (L2.CX l.prog w) 25 "joined" f_joined _ ["word", "left", "right"] (sp_joined K) := ⟨ok_joined F_joined T C_joined_tree C_comparisons C_Condition___init__ C_TooLarge, b_joined, k_joined, PySem.W.mg_of X G a_joined⟩
  have kd_OPPOSITES : ∀ p ∈ ([("<", ">="), (">=", "<"), ("<=", ">"), (">", "<="), ("==", "!="), ("!=", "==")] : List (Str × Str)), KDct K w a_OPPOSITES p.1 (.str p.2) := by
    intro p hp
    simp only [List.mem_cons, List.not_mem_nil, or_false] at hp
    rcases hp with rfl | rfl | rfl | rfl | rfl | rfl
    · exact ⟨_, _, _, dl_OPPOSITES, dk_OPPOSITES, dv_OPPOSITES_0, ⟨_, rfl⟩⟩
    · exact ⟨_, _, _, dl_OPPOSITES, dk_OPPOSITES, dv_OPPOSITES_1, ⟨_, rfl⟩⟩
    · exact ⟨_, _, _, dl_OPPOSITES, dk_OPPOSITES, dv_OPPOSITES_2, ⟨_, rfl⟩⟩
    · exact ⟨_, _, _, dl_OPPOSITES, dk_OPPOSITES, dv_OPPOSITES_3, ⟨_, rfl⟩⟩
    · exact ⟨_, _, _, dl_OPPOSITES, dk_OPPOSITES, dv_OPPOSITES_4, ⟨_, rfl⟩⟩
    · exact ⟨_, _, _, dl_OPPOSITES, dk_OPPOSITES, dv_OPPOSITES_5, ⟨_, rfl⟩⟩
  have C_opposite : Cal l.prog w K mg base CX0 22 "opposite" f_opposite _ ["tree"] (sp_opposite K) := ⟨ok_opposite F_opposite T kd_OPPOSITES b_opposite k_opposite (PySem.W.mg_of X G a_opposite), b_opposite, k_opposite, PySem.W.mg_of X G a_opposite⟩
  have C_Reader_at_end : CalM l.prog w K mg base CX0 1 a_Reader "at_end" f_Reader_at_end _ ["self"] (sp_Reader_at_end K) := ⟨⟨ok_Reader_at_end F_Reader_at_end T, b_Reader_at_end⟩, ⟨pg_Reader, hx_Reader, po_Reader, st_Reader⟩, ⟨fa_Reader_at_end, fn_Reader_at_end, k_Reader_at_end⟩⟩
  have C_Reader_ahead : CalM l.prog w K mg base CX0 2 a_Reader "ahead" f_Reader_ahead _ ["self"] (sp_Reader_ahead K) := ⟨⟨ok_Reader_ahead F_Reader_ahead T C_Reader_at_end, b_Reader_ahead⟩, ⟨pg_Reader, hx_Reader, po_Reader, st_Reader⟩, ⟨fa_Reader_ahead, fn_Reader_ahead, k_Reader_ahead⟩⟩
  have C_Reader_skip : CalM l.prog w K mg base CX0 3 a_Reader "skip" f_Reader_skip _ ["self", "token"] (sp_Reader_skip K) := ⟨⟨ok_Reader_skip F_Reader_skip T C_Reader_ahead, b_Reader_skip⟩, ⟨pg_Reader, hx_Reader, po_Reader, st_Reader⟩, ⟨fa_Reader_skip, fn_Reader_skip, k_Reader_skip⟩⟩
  have C_Reader__refuse : CalM l.prog w K mg base (L2.CX l.prog w) 3 a_Reader "_refuse" f_Reader__refuse _ ["self"] (sp_Reader__refuse K) := ⟨⟨ok_Reader__refuse F_Reader__refuse T C_Reader_at_end C_BadText, b_Reader__refuse⟩, ⟨pg_Reader, hx_Reader, po_Reader, st_Reader⟩, ⟨fa_Reader__refuse, fn_Reader__refuse, k_Reader__refuse⟩⟩
  have C_Reader__take_if : CalM l.prog w K mg base (L2.CX l.prog w) 4 a_Reader "_take_if" f_Reader__take_if _ ["self", "fits"] (sp_Reader__take_if K) := ⟨⟨ok_Reader__take_if F_Reader__take_if T C_Reader_ahead C_Reader__refuse, b_Reader__take_if⟩, ⟨pg_Reader, hx_Reader, po_Reader, st_Reader⟩, ⟨fa_Reader__take_if, fn_Reader__take_if, k_Reader__take_if⟩⟩
  have C_Reader_take_one : CalM l.prog w K mg base (L2.CX l.prog w) 5 a_Reader "take_one" f_Reader_take_one _ ["self", "words"] (sp_Reader_take_one K) := ⟨⟨ok_Reader_take_one F_Reader_take_one T C_Reader__take_if C_Reader_ahead, b_Reader_take_one⟩, ⟨pg_Reader, hx_Reader, po_Reader, st_Reader⟩, ⟨fa_Reader_take_one, fn_Reader_take_one, k_Reader_take_one⟩⟩
  have C_Reader_take_name : CalM l.prog w K mg base (L2.CX l.prog w) 5 a_Reader "take_name" f_Reader_take_name _ ["self"] (sp_Reader_take_name K) := ⟨⟨ok_Reader_take_name F_Reader_take_name T C_is_name C_Reader__take_if C_Reader_ahead, b_Reader_take_name⟩, ⟨pg_Reader, hx_Reader, po_Reader, st_Reader⟩, ⟨fa_Reader_take_name, fn_Reader_take_name, k_Reader_take_name⟩⟩
  have C_Reader_take_integer : CalM l.prog w K mg base (L2.CX l.prog w) 5 a_Reader "take_integer" f_Reader_take_integer _ ["self"] (sp_Reader_take_integer K) := ⟨⟨ok_Reader_take_integer F_Reader_take_integer T C_is_integer C_Reader__take_if C_Reader_ahead, b_Reader_take_integer⟩, ⟨pg_Reader, hx_Reader, po_Reader, st_Reader⟩, ⟨fa_Reader_take_integer, fn_Reader_take_integer, k_Reader_take_integer⟩⟩
  have C_parse_factor : Cal l.prog w K mg base (L2.CX l.prog w) 69 "parse_factor" f_parse_factor _ ["reader", "depth"] (sp_parse_factor K) := ⟨ok_parse_factor F_parse_factor T C_Reader_skip C_Reader_take_one C_Reader_take_name C_Reader_take_integer b_parse_factor k_parse_factor (PySem.W.mg_of X G a_parse_factor) F_parse_conjunction b_parse_conjunction k_parse_conjunction (PySem.W.mg_of X G a_parse_conjunction) F_parse_condition bb_parse_condition k_parse_condition (PySem.W.mg_of X G a_parse_condition) b_parse_condition, b_parse_factor, k_parse_factor, PySem.W.mg_of X G a_parse_factor⟩
  have C_parse_conjunction : Cal l.prog w K mg base (L2.CX l.prog w) 70 "parse_conjunction" f_parse_conjunction _ ["reader", "depth"] (sp_parse_conjunction K) := ⟨ok_parse_conjunction F_parse_conjunction T C_Reader_skip C_parse_factor, b_parse_conjunction, k_parse_conjunction, PySem.W.mg_of X G a_parse_conjunction⟩
  have C_parse_condition : CalD l.prog w K mg base (L2.CX l.prog w) 71 "parse_condition" f_parse_condition _ ["reader", "depth"] [(.int 0)] (sp_parse_condition K) := ⟨⟨ok_parse_condition F_parse_condition T C_Reader_skip C_parse_conjunction, bb_parse_condition, k_parse_condition, PySem.W.mg_of X G a_parse_condition⟩, b_parse_condition⟩
  have C_Condition___and__ : CalO l.prog w K mg base (L2.CX l.prog w) 26 a_Condition .BitAnd f_Condition___and__ _ ["self", "other"] (sp_Condition___and__ K) := ⟨⟨ok_Condition___and__ F_Condition___and__ T C_joined, b_Condition___and__⟩, ⟨sf_Condition, fa_Condition___and__, fn_Condition___and__⟩⟩
  have C_Condition___or__ : CalO l.prog w K mg base (L2.CX l.prog w) 26 a_Condition .BitOr f_Condition___or__ _ ["self", "other"] (sp_Condition___or__ K) := ⟨⟨ok_Condition___or__ F_Condition___or__ T C_joined, b_Condition___or__⟩, ⟨sf_Condition, fa_Condition___or__, fn_Condition___or__⟩⟩
  have C_join_all : Cal l.prog w K mg base (L2.CX l.prog w) 27 "join_all" f_join_all _ ["word", "parts"] (sp_join_all K) := ⟨ok_join_all F_join_all T C_Condition___and__ C_Condition___or__, b_join_all, k_join_all, PySem.W.mg_of X G a_join_all⟩
  have C_Condition___invert__ : CalInv l.prog w K mg base CX0 25 a_Condition f_Condition___invert__ _ ["self"] (sp_Condition___invert__ K) := ⟨⟨ok_Condition___invert__ F_Condition___invert__ T C_opposite C_Condition___init__, b_Condition___invert__⟩, ⟨fa_Condition___invert__, fn_Condition___invert__⟩⟩
  have C_build_condition : Cal l.prog w K mg base (L2.CX l.prog w) 80 "build_condition" f_build_condition _ ["parsed"] (sp_build_condition K) := ⟨ok_build_condition F_build_condition T C_join_all C_Condition___invert__ C_Condition___init__ b_build_condition k_build_condition (PySem.W.mg_of X G a_build_condition), b_build_condition, k_build_condition, PySem.W.mg_of X G a_build_condition⟩
  have C__law_state : Cal l.prog w K mg base CX0 1 "_law_state" f__law_state _ ["_law_script"] (sp__law_state K) := ⟨ok__law_state F__law_state T, b__law_state, k__law_state, PySem.W.mg_of X G a__law_state⟩
  have C__law_draw : Cal l.prog w K mg base CX0 1 "_law_draw" f__law_draw _ ["_law_state_here", "_law_many"] (sp__law_draw K) := ⟨ok__law_draw F__law_draw T, b__law_draw, k__law_draw, PySem.W.mg_of X G a__law_draw⟩
  have C__law_pick : Cal l.prog w K mg base CX0 2 "_law_pick" f__law_pick _ ["_law_state_here", "_law_row"] (sp__law_pick K) := ⟨ok__law_pick F__law_pick T C__law_draw, b__law_pick, k__law_pick, PySem.W.mg_of X G a__law_pick⟩
  have C__law_number : Cal l.prog w K mg base CX0 2 "_law_number" f__law_number _ ["_law_state_here"] (sp__law_number K) := ⟨ok__law_number F__law_number T C__law_draw, b__law_number, k__law_number, PySem.W.mg_of X G a__law_number⟩
  have C__law_constant : Cal l.prog w K mg base CX0 3 "_law_constant" f__law_constant _ ["_law_state_here"] (sp__law_constant K) := ⟨ok__law_constant F__law_constant T C__law_number C__law_draw, b__law_constant, k__law_constant, PySem.W.mg_of X G a__law_constant⟩
  have C__law_names : Cal l.prog w K mg base CX0 2 "_law_names" f__law_names _ ["_law_state_here", "_law_many"] (sp__law_names K) := ⟨ok__law_names F__law_names T C__law_draw, b__law_names, k__law_names, PySem.W.mg_of X G a__law_names⟩
  have C__law_is_int : Cal l.prog w K mg base CX0 1 "_law_is_int" f__law_is_int _ ["_law_thing"] (sp__law_is_int K) := ⟨ok__law_is_int F__law_is_int T, b__law_is_int, k__law_is_int, PySem.W.mg_of X G a__law_is_int⟩
  have C__law_same : Cal l.prog w K mg base CX0 26 "_law_same" f__law_same _ ["_law_actual", "_law_due"] (sp__law_same K) := ⟨ok__law_same F__law_same T C__law_is_int b__law_same k__law_same (PySem.W.mg_of X G a__law_same), b__law_same, k__law_same, PySem.W.mg_of X G a__law_same⟩
  have C__law_joined : Cal l.prog w K mg base CX0 1 "_law_joined" f__law_joined _ ["_law_parts", "_law_gap"] (sp__law_joined K) := ⟨ok__law_joined F__law_joined T, b__law_joined, k__law_joined, PySem.W.mg_of X G a__law_joined⟩
  have C__law_leaves : Cal l.prog w K mg base CX0 4 "_law_leaves" f__law_leaves _ ["_law_state_here", "_law_fields", "_law_many"] (sp__law_leaves K) := ⟨ok__law_leaves F__law_leaves T C__law_pick C__law_constant, b__law_leaves, k__law_leaves, PySem.W.mg_of X G a__law_leaves⟩
  have C__law_opposite : Cal l.prog w K mg base CX0 22 "_law_opposite" f__law_opposite _ ["_law_tree"] (sp__law_opposite K) := ⟨ok__law_opposite F__law_opposite T b__law_opposite k__law_opposite (PySem.W.mg_of X G a__law_opposite), b__law_opposite, k__law_opposite, PySem.W.mg_of X G a__law_opposite⟩
  have C_Reader___init__ : CalID l.prog w K mg base (L2.CX l.prog w) 4 "Reader" a_Reader f_Reader___init__ _ ["self", "line", "number"] [(.int 1)] (sp_Reader___init__ K) := ⟨ok_Reader___init__ F_Reader___init__ T C_split_line, b_Reader___init__, ⟨mi_Reader, fa_Reader___init__, fn_Reader___init__, ko_Reader⟩, PySem.W.mg_of X G g_Reader⟩
  have C_Reader_take_end : CalM l.prog w K mg base (L2.CX l.prog w) 4 a_Reader "take_end" f_Reader_take_end _ ["self"] (sp_Reader_take_end K) := ⟨⟨ok_Reader_take_end F_Reader_take_end T C_Reader_at_end C_Reader__refuse, b_Reader_take_end⟩, ⟨pg_Reader, hx_Reader, po_Reader, st_Reader⟩, ⟨fa_Reader_take_end, fn_Reader_take_end, k_Reader_take_end⟩⟩
  have C_Condition_read : CalS l.prog w K mg base (L2.CX l.prog w) 82 a_Condition p_Condition_read "read" f_Condition_read _ ["line"] (sp_Condition_read K) := ⟨⟨ok_Condition_read F_Condition_read T C_parse_condition C_build_condition C_Reader___init__ C_Reader_take_end, b_Condition_read⟩, ⟨rr_Condition, rg_Condition⟩, ⟨sg_Condition_read, ⟨_, sr_Condition_read⟩, k_Condition_read⟩⟩
  have C__law_read_it : Cal l.prog w K mg base CX0 84 "_law_read_it" f__law_read_it _ ["_law_line"] (sp__law_read_it K) := ⟨ok__law_read_it F__law_read_it T C_Condition_read, b__law_read_it, k__law_read_it, PySem.W.mg_of X G a__law_read_it⟩
  have C__law_chain : Cal l.prog w K mg base CX0 1 "_law_chain" f__law_chain _ ["_law_comps", "_law_joiners"] (sp__law_chain K) := ⟨ok__law_chain F__law_chain T, b__law_chain, k__law_chain, PySem.W.mg_of X G a__law_chain⟩
  have C__law_chain_due : Cal l.prog w K mg base CX0 1 "_law_chain_due" f__law_chain_due _ ["_law_comps", "_law_joiners"] (sp__law_chain_due K) := ⟨ok__law_chain_due F__law_chain_due T, b__law_chain_due, k__law_chain_due, PySem.W.mg_of X G a__law_chain_due⟩
  have C__law_unfit : Cal l.prog w K mg base CX0 1 "_law_unfit" f__law_unfit _ ["_law_at"] (sp__law_unfit K) := ⟨ok__law_unfit F__law_unfit T, b__law_unfit, k__law_unfit, PySem.W.mg_of X G a__law_unfit⟩
  have C__law_asks : Cal l.prog w K mg base CX0 85 "_law_asks" f__law_asks _ ["_law_state_here", "_law_words", "_law_at"] (sp__law_asks K) := ⟨ok__law_asks F__law_asks T C__law_draw C__law_joined C__law_same C__law_read_it, b__law_asks, k__law_asks, PySem.W.mg_of X G a__law_asks⟩
  have C__law_lets : Cal l.prog w K mg base CX0 85 "_law_lets" f__law_lets _ ["_law_state_here", "_law_words", "_law_due"] (sp__law_lets K) := ⟨ok__law_lets F__law_lets T C__law_joined C__law_same C__law_read_it C__law_draw, b__law_lets, k__law_lets, PySem.W.mg_of X G a__law_lets⟩
  have C__law_spoils : Cal l.prog w K mg base CX0 86 "_law_spoils" f__law_spoils _ ["_law_state_here", "_law_words", "_law_i"] (sp__law_spoils K) := ⟨ok__law_spoils F__law_spoils T C__law_draw C__law_asks C__law_pick C__law_unfit, b__law_spoils, k__law_spoils, PySem.W.mg_of X G a__law_spoils⟩
  have C__law_deep : Cal l.prog w K mg base CX0 86 "_law_deep" f__law_deep _ ["_law_state_here", "_law_comps"] (sp__law_deep K) := ⟨ok__law_deep F__law_deep T C__law_draw C__law_chain C__law_lets C__law_asks C__law_opposite C__law_pick, b__law_deep, k__law_deep, PySem.W.mg_of X G a__law_deep⟩
  exact ok_law F_law T C__law_state C__law_names C__law_leaves C__law_deep C__law_pick C__law_draw C__law_spoils C__law_chain C__law_lets C__law_asks C__law_same C__law_chain_due C__law_read_it
theorem walk {l : PySem.W.OpenLaw} {q : Program} {loose : List Str} {XP : (Str → Option Value) → Heap → Prop} {YP : World → Heap → Prop} {d : DefRec} {K : Params → PySem.W.Frag} (hn : l.most = some 63) (hdf : d.params.defaults = [])
    (hY : ∀ (w : World) (h : Heap), YP w h → (K w.params).In h)
    (F : ∀ (w : World) (mg : Str → Option Value) (fa : Addr) (h : Heap), (K w.params).In h → h.Ns mainGlobals mg → mg d.name = some (.ref fa) →
      ∃ fd : FuncData, (∀ (s : Shared) (u : Value), BindsTo s fd ⟨[u], []⟩ [("_law_script", u)]) ∧ ∀ base : Heap, (K w.params).In base → base.Ns mainGlobals mg → FnOk l.prog w (K w.params) mg base CX0 95 fa fd ["_law_script"] (spLaw (K w.params))) :
    PySem.W.WalkO q loose XP YP l.row.toRowW d [] (fun f vs => PySem.call f vs) :=
  L2.walk_of (n := 63) (k := 95) (x := "_law_script") (CX := fun _ => CX0) (sp := fun w => spLaw (K w.params)) hn (by decide) hdf ⟨rfl, by decide, by decide⟩ hY F (fun _ _ a ns hl _ hS => ⟨a, ns, rfl, hS, hl, fun _ => rfl⟩) fun _ _ _ _ _ z => z
end K07
open PySem PySem.W PyProof.Rows
set_option maxRecDepth 100000 in
set_option maxHeartbeats 0 in
theorem PySem.Challenge.cw_elseput_k07_condition_read_refused_holds : PySem.Challenge.rw_elseput_k07_condition_read_refused.Holds := by
  w_on; o_law; k_head; (case hw => w_witness2)
  k_fill
  refine K07.walk (l := PySem.Challenge.rw_elseput_k07_condition_read_refused) rfl rfl (fun w h Y => PySem.W.kIn_of Y) ?F
  case F =>
    intro w mg fa h KX G hmg
    refine' K07.all_mk KX G hmg ?g_Reader ?pg_Reader ?hx_Reader ?po_Reader ?st_Reader ?rr_Reader ?rg_Reader ?mi_Reader ?ko_Reader ?sf_Reader ?na_Reader__at ?na_Reader__end ?na_Reader__number ?na_Reader__parts ?g_Condition ?pg_Condition ?hx_Condition ?po_Condition ?st_Condition ?rr_Condition ?rg_Condition ?mi_Condition ?ko_Condition ?sf_Condition ?na_Condition__fields ?na_Condition_tree ?cv_Condition_MOST ?a_is_name ?l_is_name ?c_is_name ?k_is_name ?a_run_end ?l_run_end ?c_run_end ?k_run_end ?a_token_end ?l_token_end ?c_token_end ?k_token_end ?a_split_line ?l_split_line ?c_split_line ?k_split_line ?a_in_bound ?l_in_bound ?c_in_bound ?k_in_bound ?a_check_name ?l_check_name ?c_check_name ?k_check_name ?a_check_number ?l_check_number ?c_check_number ?k_check_number ?a_is_integer ?l_is_integer ?c_is_integer ?k_is_integer ?a_comparisons ?l_comparisons ?c_comparisons ?k_comparisons ?a_joined_tree ?l_joined_tree ?c_joined_tree ?k_joined_tree ?fa_Condition___init__ ?fn_Condition___init__ ?l_Condition___init__ ?c_Condition___init__ ?k_Condition___init__ ?a_joined ?l_joined ?c_joined ?k_joined ?a_opposite ?l_opposite ?c_opposite ?k_opposite ?fa_Reader_at_end ?fn_Reader_at_end ?l_Reader_at_end ?c_Reader_at_end ?k_Reader_at_end ?fa_Reader_ahead ?fn_Reader_ahead ?l_Reader_ahead ?c_Reader_ahead ?k_Reader_ahead ?fa_Reader_skip ?fn_Reader_skip ?l_Reader_skip ?c_Reader_skip ?k_Reader_skip ?fa_Reader__refuse ?fn_Reader__refuse ?l_Reader__refuse ?c_Reader__refuse ?k_Reader__refuse ?fa_Reader__take_if ?fn_Reader__take_if ?l_Reader__take_if ?c_Reader__take_if ?k_Reader__take_if ?fa_Reader_take_one ?fn_Reader_take_one ?l_Reader_take_one ?c_Reader_take_one ?k_Reader_take_one ?fa_Reader_take_name ?fn_Reader_take_name ?l_Reader_take_name ?c_Reader_take_name ?k_Reader_take_name ?fa_Reader_take_integer ?fn_Reader_take_integer ?l_Reader_take_integer ?c_Reader_take_integer ?k_Reader_take_integer ?a_parse_factor ?l_parse_factor ?c_parse_factor ?k_parse_factor ?a_parse_conjunction ?l_parse_conjunction ?c_parse_conjunction ?k_parse_conjunction ?a_parse_condition ?l_parse_condition ?ld_parse_condition ?v_d_parse_condition ?c_parse_condition ?k_parse_condition ?fa_Condition___and__ ?fn_Condition___and__ ?l_Condition___and__ ?c_Condition___and__ ?k_Condition___and__ ?fa_Condition___or__ ?fn_Condition___or__ ?l_Condition___or__ ?c_Condition___or__ ?k_Condition___or__ ?a_join_all ?l_join_all ?c_join_all ?k_join_all ?fa_Condition___invert__ ?fn_Condition___invert__ ?l_Condition___invert__ ?c_Condition___invert__ ?k_Condition___invert__ ?a_build_condition ?l_build_condition ?c_build_condition ?k_build_condition ?a__law_state ?l__law_state ?c__law_state ?k__law_state ?a__law_draw ?l__law_draw ?c__law_draw ?k__law_draw ?a__law_pick ?l__law_pick ?c__law_pick ?k__law_pick ?a__law_number ?l__law_number ?c__law_number ?k__law_number ?a__law_constant ?l__law_constant ?c__law_constant ?k__law_constant ?a__law_names ?l__law_names ?c__law_names ?k__law_names ?a__law_is_int ?l__law_is_int ?c__law_is_int ?k__law_is_int ?a__law_same ?l__law_same ?c__law_same ?k__law_same ?a__law_joined ?l__law_joined ?c__law_joined ?k__law_joined ?a__law_leaves ?l__law_leaves ?c__law_leaves ?k__law_leaves ?a__law_opposite ?l__law_opposite ?c__law_opposite ?k__law_opposite ?fa_Reader___init__ ?fn_Reader___init__ ?l_Reader___init__ ?ld_Reader___init__ ?v_d_Reader___init__ ?c_Reader___init__ ?k_Reader___init__ ?fa_Reader_take_end ?fn_Reader_take_end ?l_Reader_take_end ?c_Reader_take_end ?k_Reader_take_end ?sg_Condition_read ?sr_Condition_read ?l_Condition_read ?c_Condition_read ?k_Condition_read ?a__law_read_it ?l__law_read_it ?c__law_read_it ?k__law_read_it ?a__law_chain ?l__law_chain ?c__law_chain ?k__law_chain ?a__law_chain_due ?l__law_chain_due ?c__law_chain_due ?k__law_chain_due ?a__law_unfit ?l__law_unfit ?c__law_unfit ?k__law_unfit ?a__law_asks ?l__law_asks ?c__law_asks ?k__law_asks ?a__law_lets ?l__law_lets ?c__law_lets ?k__law_lets ?a__law_spoils ?l__law_spoils ?c__law_spoils ?k__law_spoils ?a__law_deep ?l__law_deep ?c__law_deep ?k__law_deep ?a_law ?l_law ?c_law ?k_law ?sg_Condition_always ?sr_Condition_always ?l_Condition_always ?c_Condition_always ?k_Condition_always ?sg_Condition_never ?sr_Condition_never ?l_Condition_never ?c_Condition_never ?k_Condition_never ?sg_Condition_compare ?sr_Condition_compare ?l_Condition_compare ?c_Condition_compare ?k_Condition_compare ?z_ValueError ?z_all ?z_bool ?z_dict ?z_int ?z_isinstance ?z_len ?z_list ?z_range ?z_sorted ?z_staticmethod ?z_str ?z_super ?z_tuple ?g_BOUND ?g_DIGITS ?g_LETTERS ?g_LONGEST_INTEGER ?g_LONGEST_NAME ?g_MOST_NESTED ?g_ALWAYS ?l_ALWAYS ?v_ALWAYS ?g_MARKS ?l_MARKS ?v_MARKS ?g_NEVER ?l_NEVER ?v_NEVER ?g_OPPOSITES ?g_RESERVED ?l_RESERVED ?v_RESERVED ?g_SIGNS ?l_SIGNS ?v_SIGNS ?g_BadName ?g_BadNumber ?g_BadSign ?g_BadText ?g_ElseputError ?g_TooLarge ?st_any ?htop ?xc_BadName ?ref_BadName ?sa_BadName ?eb_BadName ?ty_BadName ?kC_BadName ?iC_BadName ?tI_BadName ?sup_BadName ?sv_BadName ?mro_BadName ?no0_BadName ?ga_BadName ?gg_BadName ?hd_BadName ?hcl_BadName ?hn_BadName ?ht_BadName ?hm_BadName ?lf_BadName ?cd_BadName ?lc_BadName ?v2_BadName ?fe_BadName ?lcc_BadName ?hD_BadName ?xc_BadNumber ?ref_BadNumber ?sa_BadNumber ?eb_BadNumber ?ty_BadNumber ?kC_BadNumber ?iC_BadNumber ?tI_BadNumber ?sup_BadNumber ?sv_BadNumber ?mro_BadNumber ?no0_BadNumber ?ga_BadNumber ?gg_BadNumber ?hd_BadNumber ?hcl_BadNumber ?hn_BadNumber ?ht_BadNumber ?hm_BadNumber ?lf_BadNumber ?cd_BadNumber ?lc_BadNumber ?v2_BadNumber ?fe_BadNumber ?lcc_BadNumber ?hD_BadNumber ?xc_BadSign ?ref_BadSign ?sa_BadSign ?eb_BadSign ?ty_BadSign ?kC_BadSign ?iC_BadSign ?tI_BadSign ?sup_BadSign ?sv_BadSign ?mro_BadSign ?no0_BadSign ?ga_BadSign ?gg_BadSign ?hd_BadSign ?hcl_BadSign ?hn_BadSign ?ht_BadSign ?hm_BadSign ?lf_BadSign ?cd_BadSign ?lc_BadSign ?v2_BadSign ?fe_BadSign ?lcc_BadSign ?hD_BadSign ?xc_BadText ?ref_BadText ?sa_BadText ?eb_BadText ?ty_BadText ?kC_BadText ?iC_BadText ?tI_BadText ?sup_BadText ?sv_BadText ?mro_BadText ?no0_BadText ?no1_BadText ?ga_BadText ?gg_BadText ?hd_BadText ?hcl_BadText ?hn_BadText ?ht_BadText ?hm_BadText ?lf_BadText ?cd_BadText ?lc_BadText ?v2_BadText ?fe_BadText ?lcc_BadText ?hD_BadText ?xc_TooLarge ?ref_TooLarge ?sa_TooLarge ?eb_TooLarge ?ty_TooLarge ?kC_TooLarge ?iC_TooLarge ?tI_TooLarge ?sup_TooLarge ?sv_TooLarge ?mro_TooLarge ?no0_TooLarge ?ga_TooLarge ?gg_TooLarge ?hd_TooLarge ?hcl_TooLarge ?hn_TooLarge ?ht_TooLarge ?hm_TooLarge ?lf_TooLarge ?cd_TooLarge ?lc_TooLarge ?v2_TooLarge ?fe_TooLarge ?lcc_TooLarge ?hD_TooLarge ?mb_ElseputError ?md_ElseputError ?mt_ElseputError ?ms_BadName_ElseputError ?ms_BadNumber_ElseputError ?ms_BadSign_ElseputError ?ms_BadText_ElseputError ?ms_TooLarge_ElseputError ?kit_BadName_BadText ?kit_BadName_ValueError ?kit_BadName_TooLarge ?kit_BadNumber_BadText ?kit_BadNumber_ValueError ?kit_BadNumber_TooLarge ?kit_BadSign_BadText ?kit_BadSign_ValueError ?kit_BadSign_TooLarge ?kit_BadText_BadText ?kit_BadText_ValueError ?kit_BadText_TooLarge ?kit_TooLarge_BadText ?kit_TooLarge_ValueError ?kit_TooLarge_TooLarge ?dl_OPPOSITES ?dk_OPPOSITES ?dv_OPPOSITES_0 ?dv_OPPOSITES_1 ?dv_OPPOSITES_2 ?dv_OPPOSITES_3 ?dv_OPPOSITES_4 ?dv_OPPOSITES_5
    (case g_Reader => k_is)
    (case pg_Reader => k_is)
    (case hx_Reader => k_is)
    (case po_Reader => k_is)
    (case st_Reader => k_is)
    (case rr_Reader => k_is)
    (case rg_Reader => k_is)
    (case mi_Reader => k_is)
    (case ko_Reader => k_is)
    (case sf_Reader => k_is)
    (case na_Reader__at => k_is)
    (case na_Reader__end => k_is)
    (case na_Reader__number => k_is)
    (case na_Reader__parts => k_is)
    (case g_Condition => k_is)
    (case pg_Condition => k_is)
    (case hx_Condition => k_is)
    (case po_Condition => k_is)
    (case st_Condition => k_is)
    (case rr_Condition => k_is)
    (case rg_Condition => k_is)
    (case mi_Condition => k_is)
    (case ko_Condition => k_is)
    (case sf_Condition => k_is)
    (case na_Condition__fields => k_is)
    (case na_Condition_tree => k_is)
    (case cv_Condition_MOST => k_is)
    (case a_is_name => k_is)
    (case l_is_name => k_is)
    (case c_is_name => k_is)
    (case k_is_name => k_is)
    (case a_run_end => k_is)
    (case l_run_end => k_is)
    (case c_run_end => k_is)
    (case k_run_end => k_is)
    (case a_token_end => k_is)
    (case l_token_end => k_is)
    (case c_token_end => k_is)
    (case k_token_end => k_is)
    (case a_split_line => k_is)
    (case l_split_line => k_is)
    (case c_split_line => k_is)
    (case k_split_line => k_is)
    (case a_in_bound => k_is)
    (case l_in_bound => k_is)
    (case c_in_bound => k_is)
    (case k_in_bound => k_is)
    (case a_check_name => k_is)
    (case l_check_name => k_is)
    (case c_check_name => k_is)
    (case k_check_name => k_is)
    (case a_check_number => k_is)
    (case l_check_number => k_is)
    (case c_check_number => k_is)
    (case k_check_number => k_is)
    (case a_is_integer => k_is)
    (case l_is_integer => k_is)
    (case c_is_integer => k_is)
    (case k_is_integer => k_is)
    (case a_comparisons => k_is)
    (case l_comparisons => k_is)
    (case c_comparisons => k_is)
    (case k_comparisons => k_is)
    (case a_joined_tree => k_is)
    (case l_joined_tree => k_is)
    (case c_joined_tree => k_is)
    (case k_joined_tree => k_is)
    (case fa_Condition___init__ => k_is)
    (case fn_Condition___init__ => k_is)
    (case l_Condition___init__ => k_is)
    (case c_Condition___init__ => k_is)
    (case k_Condition___init__ => k_is)
    (case a_joined => k_is)
    (case l_joined => k_is)
    (case c_joined => k_is)
    (case k_joined => k_is)
    (case a_opposite => k_is)
    (case l_opposite => k_is)
    (case c_opposite => k_is)
    (case k_opposite => k_is)
    (case fa_Reader_at_end => k_is)
    (case fn_Reader_at_end => k_is)
    (case l_Reader_at_end => k_is)
    (case c_Reader_at_end => k_is)
    (case k_Reader_at_end => k_is)
    (case fa_Reader_ahead => k_is)
    (case fn_Reader_ahead => k_is)
    (case l_Reader_ahead => k_is)
    (case c_Reader_ahead => k_is)
    (case k_Reader_ahead => k_is)
    (case fa_Reader_skip => k_is)
    (case fn_Reader_skip => k_is)
    (case l_Reader_skip => k_is)
    (case c_Reader_skip => k_is)
    (case k_Reader_skip => k_is)
    (case fa_Reader__refuse => k_is)
    (case fn_Reader__refuse => k_is)
    (case l_Reader__refuse => k_is)
    (case c_Reader__refuse => k_is)
    (case k_Reader__refuse => k_is)
    (case fa_Reader__take_if => k_is)
    (case fn_Reader__take_if => k_is)
    (case l_Reader__take_if => k_is)
    (case c_Reader__take_if => k_is)
    (case k_Reader__take_if => k_is)
    (case fa_Reader_take_one => k_is)
    (case fn_Reader_take_one => k_is)
    (case l_Reader_take_one => k_is)
    (case c_Reader_take_one => k_is)
    (case k_Reader_take_one => k_is)
    (case fa_Reader_take_name => k_is)
    (case fn_Reader_take_name => k_is)
    (case l_Reader_take_name => k_is)
    (case c_Reader_take_name => k_is)
    (case k_Reader_take_name => k_is)
    (case fa_Reader_take_integer => k_is)
    (case fn_Reader_take_integer => k_is)
    (case l_Reader_take_integer => k_is)
    (case c_Reader_take_integer => k_is)
    (case k_Reader_take_integer => k_is)
    (case a_parse_factor => k_is)
    (case l_parse_factor => k_is)
    (case c_parse_factor => k_is)
    (case k_parse_factor => k_is)
    (case a_parse_conjunction => k_is)
    (case l_parse_conjunction => k_is)
    (case c_parse_conjunction => k_is)
    (case k_parse_conjunction => k_is)
    (case a_parse_condition => k_is)
    (case l_parse_condition => k_is)
    (case ld_parse_condition => k_is)
    (case v_d_parse_condition => (repeat' first | exact .nil | refine .cons ⟨_, rfl⟩ ?_))
    (case c_parse_condition => k_is)
    (case k_parse_condition => k_is)
    (case fa_Condition___and__ => k_is)
    (case fn_Condition___and__ => k_is)
    (case l_Condition___and__ => k_is)
    (case c_Condition___and__ => k_is)
    (case k_Condition___and__ => k_is)
    (case fa_Condition___or__ => k_is)
    (case fn_Condition___or__ => k_is)
    (case l_Condition___or__ => k_is)
    (case c_Condition___or__ => k_is)
    (case k_Condition___or__ => k_is)
    (case a_join_all => k_is)
    (case l_join_all => k_is)
    (case c_join_all => k_is)
    (case k_join_all => k_is)
    (case fa_Condition___invert__ => k_is)
    (case fn_Condition___invert__ => k_is)
    (case l_Condition___invert__ => k_is)
    (case c_Condition___invert__ => k_is)
    (case k_Condition___invert__ => k_is)
    (case a_build_condition => k_is)
    (case l_build_condition => k_is)
    (case c_build_condition => k_is)
    (case k_build_condition => k_is)
    (case a__law_state => k_is)
    (case l__law_state => k_is)
    (case c__law_state => k_is)
    (case k__law_state => k_is)
    (case a__law_draw => k_is)
    (case l__law_draw => k_is)
    (case c__law_draw => k_is)
    (case k__law_draw => k_is)
    (case a__law_pick => k_is)
    (case l__law_pick => k_is)
    (case c__law_pick => k_is)
    (case k__law_pick => k_is)
    (case a__law_number => k_is)
    (case l__law_number => k_is)
    (case c__law_number => k_is)
    (case k__law_number => k_is)
    (case a__law_constant => k_is)
    (case l__law_constant => k_is)
    (case c__law_constant => k_is)
    (case k__law_constant => k_is)
    (case a__law_names => k_is)
    (case l__law_names => k_is)
    (case c__law_names => k_is)
    (case k__law_names => k_is)
    (case a__law_is_int => k_is)
    (case l__law_is_int => k_is)
    (case c__law_is_int => k_is)
    (case k__law_is_int => k_is)
    (case a__law_same => k_is)
    (case l__law_same => k_is)
    (case c__law_same => k_is)
    (case k__law_same => k_is)
    (case a__law_joined => k_is)
    (case l__law_joined => k_is)
    (case c__law_joined => k_is)
    (case k__law_joined => k_is)
    (case a__law_leaves => k_is)
    (case l__law_leaves => k_is)
    (case c__law_leaves => k_is)
    (case k__law_leaves => k_is)
    (case a__law_opposite => k_is)
    (case l__law_opposite => k_is)
    (case c__law_opposite => k_is)
    (case k__law_opposite => k_is)
    (case fa_Reader___init__ => k_is)
    (case fn_Reader___init__ => k_is)
    (case l_Reader___init__ => k_is)
    (case ld_Reader___init__ => k_is)
    (case v_d_Reader___init__ => (repeat' first | exact .nil | refine .cons ⟨_, rfl⟩ ?_))
    (case c_Reader___init__ => k_is)
    (case k_Reader___init__ => k_is)
    (case fa_Reader_take_end => k_is)
    (case fn_Reader_take_end => k_is)
    (case l_Reader_take_end => k_is)
    (case c_Reader_take_end => k_is)
    (case k_Reader_take_end => k_is)
    (case sg_Condition_read => k_is)
    (case sr_Condition_read => k_is)
    (case l_Condition_read => k_is)
    (case c_Condition_read => k_is)
    (case k_Condition_read => k_is)
    (case a__law_read_it => k_is)
    (case l__law_read_it => k_is)
    (case c__law_read_it => k_is)
    (case k__law_read_it => k_is)
    (case a__law_chain => k_is)
    (case l__law_chain => k_is)
    (case c__law_chain => k_is)
    (case k__law_chain => k_is)
    (case a__law_chain_due => k_is)
    (case l__law_chain_due => k_is)
    (case c__law_chain_due => k_is)
    (case k__law_chain_due => k_is)
    (case a__law_unfit => k_is)
    (case l__law_unfit => k_is)
    (case c__law_unfit => k_is)
    (case k__law_unfit => k_is)
    (case a__law_asks => k_is)
    (case l__law_asks => k_is)
    (case c__law_asks => k_is)
    (case k__law_asks => k_is)
    (case a__law_lets => k_is)
    (case l__law_lets => k_is)
    (case c__law_lets => k_is)
    (case k__law_lets => k_is)
    (case a__law_spoils => k_is)
    (case l__law_spoils => k_is)
    (case c__law_spoils => k_is)
    (case k__law_spoils => k_is)
    (case a__law_deep => k_is)
    (case l__law_deep => k_is)
    (case c__law_deep => k_is)
    (case k__law_deep => k_is)
    (case a_law => k_is)
    (case l_law => k_is)
    (case c_law => k_is)
    (case k_law => k_is)
    (case sg_Condition_always => k_is)
    (case sr_Condition_always => k_is)
    (case l_Condition_always => k_is)
    (case c_Condition_always => k_is)
    (case k_Condition_always => k_is)
    (case sg_Condition_never => k_is)
    (case sr_Condition_never => k_is)
    (case l_Condition_never => k_is)
    (case c_Condition_never => k_is)
    (case k_Condition_never => k_is)
    (case sg_Condition_compare => k_is)
    (case sr_Condition_compare => k_is)
    (case l_Condition_compare => k_is)
    (case c_Condition_compare => k_is)
    (case k_Condition_compare => k_is)
    (case z_ValueError => k_is)
    (case z_all => k_is)
    (case z_bool => k_is)
    (case z_dict => k_is)
    (case z_int => k_is)
    (case z_isinstance => k_is)
    (case z_len => k_is)
    (case z_list => k_is)
    (case z_range => k_is)
    (case z_sorted => k_is)
    (case z_staticmethod => k_is)
    (case z_str => k_is)
    (case z_super => k_is)
    (case z_tuple => k_is)
    (case g_BOUND => k_is)
    (case g_DIGITS => k_is)
    (case g_LETTERS => k_is)
    (case g_LONGEST_INTEGER => k_is)
    (case g_LONGEST_NAME => k_is)
    (case g_MOST_NESTED => k_is)
    (case g_ALWAYS => k_is)
    (case l_ALWAYS => k_is)
    (case v_ALWAYS => (repeat' first | exact .nil | refine .cons ⟨_, rfl⟩ ?_))
    (case g_MARKS => k_is)
    (case l_MARKS => k_is)
    (case v_MARKS => (repeat' first | exact .nil | refine .cons ⟨_, rfl⟩ ?_))
    (case g_NEVER => k_is)
    (case l_NEVER => k_is)
    (case v_NEVER => (repeat' first | exact .nil | refine .cons ⟨_, rfl⟩ ?_))
    (case g_OPPOSITES => k_is)
    (case g_RESERVED => k_is)
    (case l_RESERVED => k_is)
    (case v_RESERVED => (repeat' first | exact .nil | refine .cons ⟨_, rfl⟩ ?_))
    (case g_SIGNS => k_is)
    (case l_SIGNS => k_is)
    (case v_SIGNS => (repeat' first | exact .nil | refine .cons ⟨_, rfl⟩ ?_))
    (case g_BadName => k_is)
    (case g_BadNumber => k_is)
    (case g_BadSign => k_is)
    (case g_BadText => k_is)
    (case g_ElseputError => k_is)
    (case g_TooLarge => k_is)
    (case st_any => k_is)
    (case htop => first | rfl | decide +kernel | k_is)
    (case xc_BadName => k_is)
    (case ref_BadName => first | rfl | decide +kernel | k_is)
    (case sa_BadName => k_is)
    (case eb_BadName => k_is)
    (case ty_BadName => k_is)
    (case kC_BadName => k_is)
    (case iC_BadName => k_is)
    (case tI_BadName => k_is)
    (case sup_BadName => ks_is)
    (case sv_BadName => k_is)
    (case mro_BadName => k_is)
    (case no0_BadName => k_is)
    (case ga_BadName => k_is)
    (case gg_BadName => k_is)
    (case hd_BadName => k_is)
    (case hcl_BadName => k_is)
    (case hn_BadName => k_is)
    (case ht_BadName => k_is)
    (case hm_BadName => k_is)
    (case lf_BadName => k_is)
    (case cd_BadName => k_is)
    (case lc_BadName => k_is)
    (case v2_BadName => first | rfl | decide +kernel | k_is)
    (case fe_BadName => first | rfl | decide +kernel | k_is)
    (case lcc_BadName => k_is)
    (case hD_BadName => k_is)
    (case xc_BadNumber => k_is)
    (case ref_BadNumber => first | rfl | decide +kernel | k_is)
    (case sa_BadNumber => k_is)
    (case eb_BadNumber => k_is)
    (case ty_BadNumber => k_is)
    (case kC_BadNumber => k_is)
    (case iC_BadNumber => k_is)
    (case tI_BadNumber => k_is)
    (case sup_BadNumber => ks_is)
    (case sv_BadNumber => k_is)
    (case mro_BadNumber => k_is)
    (case no0_BadNumber => k_is)
    (case ga_BadNumber => k_is)
    (case gg_BadNumber => k_is)
    (case hd_BadNumber => k_is)
    (case hcl_BadNumber => k_is)
    (case hn_BadNumber => k_is)
    (case ht_BadNumber => k_is)
    (case hm_BadNumber => k_is)
    (case lf_BadNumber => k_is)
    (case cd_BadNumber => k_is)
    (case lc_BadNumber => k_is)
    (case v2_BadNumber => first | rfl | decide +kernel | k_is)
    (case fe_BadNumber => first | rfl | decide +kernel | k_is)
    (case lcc_BadNumber => k_is)
    (case hD_BadNumber => k_is)
    (case xc_BadSign => k_is)
    (case ref_BadSign => first | rfl | decide +kernel | k_is)
    (case sa_BadSign => k_is)
    (case eb_BadSign => k_is)
    (case ty_BadSign => k_is)
    (case kC_BadSign => k_is)
    (case iC_BadSign => k_is)
    (case tI_BadSign => k_is)
    (case sup_BadSign => ks_is)
    (case sv_BadSign => k_is)
    (case mro_BadSign => k_is)
    (case no0_BadSign => k_is)
    (case ga_BadSign => k_is)
    (case gg_BadSign => k_is)
    (case hd_BadSign => k_is)
    (case hcl_BadSign => k_is)
    (case hn_BadSign => k_is)
    (case ht_BadSign => k_is)
    (case hm_BadSign => k_is)
    (case lf_BadSign => k_is)
    (case cd_BadSign => k_is)
    (case lc_BadSign => k_is)
    (case v2_BadSign => first | rfl | decide +kernel | k_is)
    (case fe_BadSign => first | rfl | decide +kernel | k_is)
    (case lcc_BadSign => k_is)
    (case hD_BadSign => k_is)
    (case xc_BadText => k_is)
    (case ref_BadText => first | rfl | decide +kernel | k_is)
    (case sa_BadText => k_is)
    (case eb_BadText => k_is)
    (case ty_BadText => k_is)
    (case kC_BadText => k_is)
    (case iC_BadText => k_is)
    (case tI_BadText => k_is)
    (case sup_BadText => ks_is)
    (case sv_BadText => k_is)
    (case mro_BadText => k_is)
    (case no0_BadText => k_is)
    (case no1_BadText => k_is)
    (case ga_BadText => k_is)
    (case gg_BadText => k_is)
    (case hd_BadText => k_is)
    (case hcl_BadText => k_is)
    (case hn_BadText => k_is)
    (case ht_BadText => k_is)
    (case hm_BadText => k_is)
    (case lf_BadText => k_is)
    (case cd_BadText => k_is)
    (case lc_BadText => k_is)
    (case v2_BadText => first | rfl | decide +kernel | k_is)
    (case fe_BadText => first | rfl | decide +kernel | k_is)
    (case lcc_BadText => k_is)
    (case hD_BadText => k_is)
    (case xc_TooLarge => k_is)
    (case ref_TooLarge => first | rfl | decide +kernel | k_is)
    (case sa_TooLarge => k_is)
    (case eb_TooLarge => k_is)
    (case ty_TooLarge => k_is)
    (case kC_TooLarge => k_is)
    (case iC_TooLarge => k_is)
    (case tI_TooLarge => k_is)
    (case sup_TooLarge => ks_is)
    (case sv_TooLarge => k_is)
    (case mro_TooLarge => k_is)
    (case no0_TooLarge => k_is)
    (case ga_TooLarge => k_is)
    (case gg_TooLarge => k_is)
    (case hd_TooLarge => k_is)
    (case hcl_TooLarge => k_is)
    (case hn_TooLarge => k_is)
    (case ht_TooLarge => k_is)
    (case hm_TooLarge => k_is)
    (case lf_TooLarge => k_is)
    (case cd_TooLarge => k_is)
    (case lc_TooLarge => k_is)
    (case v2_TooLarge => first | rfl | decide +kernel | k_is)
    (case fe_TooLarge => first | rfl | decide +kernel | k_is)
    (case lcc_TooLarge => k_is)
    (case hD_TooLarge => k_is)
    (case mb_ElseputError => k_is)
    (case md_ElseputError => k_is)
    (case mt_ElseputError => k_is)
    (case ms_BadName_ElseputError => k_is)
    (case ms_BadNumber_ElseputError => k_is)
    (case ms_BadSign_ElseputError => k_is)
    (case ms_BadText_ElseputError => k_is)
    (case ms_TooLarge_ElseputError => k_is)
    (case kit_BadName_BadText => kit_is)
    (case kit_BadName_ValueError => kit_is)
    (case kit_BadName_TooLarge => kit_is)
    (case kit_BadNumber_BadText => kit_is)
    (case kit_BadNumber_ValueError => kit_is)
    (case kit_BadNumber_TooLarge => kit_is)
    (case kit_BadSign_BadText => kit_is)
    (case kit_BadSign_ValueError => kit_is)
    (case kit_BadSign_TooLarge => kit_is)
    (case kit_BadText_BadText => kit_is)
    (case kit_BadText_ValueError => kit_is)
    (case kit_BadText_TooLarge => kit_is)
    (case kit_TooLarge_BadText => kit_is)
    (case kit_TooLarge_ValueError => kit_is)
    (case kit_TooLarge_TooLarge => kit_is)
    (case dl_OPPOSITES => k_is)
    (case dk_OPPOSITES => k_keys)
    (case dv_OPPOSITES_0 => k_is)
    (case dv_OPPOSITES_1 => k_is)
    (case dv_OPPOSITES_2 => k_is)
    (case dv_OPPOSITES_3 => k_is)
    (case dv_OPPOSITES_4 => k_is)
    (case dv_OPPOSITES_5 => k_is)
