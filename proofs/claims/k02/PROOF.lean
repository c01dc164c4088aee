import PyProof.Rows.All
import Wide.All
import OpenK.AllK
import Wide.FinOn
import HandS.ForMost
import HandS.Wide
import HandS.TupAny
import HandS.IsInst
import HandS.Flow
import HandS.Evl
import HandS.Walk
import HandS.ExcInit
import HandS.Nested
import HandS.FStr
import HandS.TryOnly
import HandS.TryMany
import HandS.ExcIs
import HandS.ExcField
import HandS.WordsExc
import HandS.RaiseMore
import KE.KExcSuper
import KE.KExcIs
import PyProof.StrOps2
import PyProof.Rows.ReprOcc
import PyProof.Rows.StrDigits
import PyProof.Rows.StrJoinMade
import HandS.ClsMeth
import HandS.Star
import HandS.Property
import HandS.New
import HandS.ExcOwn
import HandS.More
import HandS.Dict
import HandS.Small
import KE.KOpsOwn
import OpenK.KMeth
import HandS.Conv
import HandS.Finally
import PyProof.StrLawsRepr
import HandS.SetBool
import HandS.Strs
import PySem.Challenge.RW_elseput_k02_one_comparison
set_option Elab.async false
set_option linter.all false
set_option maxRecDepth 100000
/-! Own words over the hand layer: readings that compute on the values' shapes. -/
namespace El
open PySem PySem.Spec PyProof.Rows L2
section
variable {X : Cx}

theorem wk {e : Expr} {t t' : TE} (h : PE X e t) (i : ∀ σ H Q, t' σ H Q → t σ H Q) : PE X e t' :=
  ⟨fun pins s σ H Q I q => h.run pins s σ H Q I (i σ H Q q)⟩
theorem opwk {f : Value → Value → Sem Value} {r r' : R2} (h : OpR X f r) (i : ∀ x y H Q, r' x y H Q → r x y H Q) : OpR X f r' :=
  fun pins s σ H x y v u Q I rx ry q => h pins s σ H x y v u Q I rx ry (i x y H Q q)
theorem unwk {f : Value → Sem Value} {r r' : V → Hp → VK → Prop} (h : UnR X f r) (i : ∀ x H Q, r' x H Q → r x H Q) : UnR X f r' :=
  fun pins s σ H x v Q I rx q => h pins s σ H x v Q I rx (i x H Q q)
theorem cwk {f : Value} {r r' : List V → Hp → VK → Prop} (h : CallR X f r) (i : ∀ x H Q, r' x H Q → r x H Q) : CallR X f r' :=
  fun pins s σ H x v Q I rx q => h pins s σ H x v Q I rx (i x H Q q)
theorem ixwk {r r' : R2} (h : IxR X r) (i : ∀ x y H Q, r' x y H Q → r x y H Q) : IxR X r' :=
  fun a b pins s σ H x y v u Q I rx ry q => h a b pins s σ H x y v u Q I rx ry (i x y H Q q)
theorem slwk {r r' : V → Option Int → Option Int → Hp → VK → Prop} (h : SlR X r) (i : ∀ x a b H Q, r' x a b H Q → r x a b H Q) : SlR X r' :=
  fun pins s σ H x v vl vu lo hi sl Q I rx hs pl pu q => h pins s σ H x v vl vu lo hi sl Q I rx hs pl pu (i x lo hi H Q q)

/-! ### a name in its slot -/
def tV (i : Nat) : TE := fun σ H Q => match σ[i]? with | some (some v) => Q v H | _ => False
theorem v_ (i : Nat) {x : Str} {pos : Pos} (hN : X.N[i]? = some x := by rfl) (hv : Vis X.env.scope x := by first | exact Or.inl rfl | exact Or.inr (Or.inl rfl) | exact Or.inr (Or.inr rfl)) (hd : (x == ("__debug__" : Str)) = false := by decide)
    (hcd : (x == ("__classdict__" : Str)) = false := by decide) : PE X (.Name x pos) (tV i) :=
  wk (pv i hN hv hd hcd) fun σ H Q q => by
    unfold tV at q
    split at q
    · rename_i v e; exact ⟨v, e, q⟩
    · exact q.elim

/-! ### operators -/
def addM (K : PySem.W.Frag) : R2 := fun x y H Q => match x, y with
  | .int i, .int j => Q (.int (i + j)) H
  | .str i, .str j => i.length + j.length ≤ sizeLine ∧ Q (.str (i ++ j)) H
  | .ref a, .ref b => (∃ xs zs, H a = some (.lst xs) ∧ H b = some (.lst zs) ∧ xs.length + zs.length ≤ sizeLine ∧ ∀ p, H p = none → Q (.ref p) (upd H p (.lst (xs ++ zs)))) ∨ rCatT K (.ref a) (.ref b) H Q
  | _, _ => False
theorem op_addM : OpR X (binaryOp .Add) (addM X.K) := opwk (OpR.or op_add (OpR.or op_add_str (OpR.or op_cat op_catT))) fun x y H Q q => by
  unfold addM at q
  split at q
  · exact .inl ⟨_, _, rfl, rfl, q⟩
  · exact .inr (.inl ⟨_, _, rfl, rfl, q⟩)
  · rcases q with ⟨xs, zs, h1, h2, h3, h4⟩ | q
    · exact .inr (.inr (.inl ⟨_, _, xs, zs, rfl, rfl, h1, h2, h3, h4⟩))
    · exact .inr (.inr (.inr q))
  · exact q.elim
def subM : R2 := fun x y H Q => match x, y with
  | .int i, .int j => Q (.int (i - j)) H
  | _, _ => False
theorem op_subM : OpR X (binaryOp .Sub) subM := opwk op_sub fun x y H Q q => by
  unfold subM at q
  split at q
  · exact ⟨_, _, rfl, rfl, q⟩
  · exact q.elim
def mulM : R2 := fun x y H Q => match x, y with
  | .int i, .int j => (CMul i j ∨ CMulW i j) ∧ Q (.int (i * j)) H
  | .ref l, .int k => ∃ xs, H l = some (.lst xs) ∧ (-(2 ^ 63) ≤ k ∧ k < 2 ^ 63) ∧ xs.length * k.toNat ≤ sizeLine ∧ ∀ p, H p = none → Q (.ref p) (upd H p (.lst (List.replicate k.toNat xs).flatten))
  | _, _ => False
theorem op_mulM : OpR X (binaryOp .Mult) mulM := opwk (OpR.or op_mul (OpR.or op_mulW op_rep)) fun x y H Q q => by
  unfold mulM at q
  split at q
  · obtain ⟨h | h, q⟩ := q
    · exact .inl ⟨_, _, rfl, rfl, h, q⟩
    · exact .inr (.inl ⟨_, _, rfl, rfl, h, q⟩)
  · obtain ⟨xs, h1, h2, h3, h4⟩ := q
    exact .inr (.inr ⟨_, _, xs, rfl, rfl, h1, h2.1, h2.2, h3, h4⟩)
  · exact q.elim
def divM : R2 := fun x y H Q => match x, y with
  | .int i, .int j => (CDiv i j ∨ CDivW i j) ∧ Q (.int (i / j)) H
  | _, _ => False
theorem op_divM : OpR X (binaryOp .FloorDiv) divM := opwk (OpR.or op_fdiv op_fdivW) fun x y H Q q => by
  unfold divM at q
  split at q
  · obtain ⟨h | h, q⟩ := q
    · exact .inl ⟨_, _, rfl, rfl, h, q⟩
    · exact .inr ⟨_, _, rfl, rfl, h, q⟩
  · exact q.elim
def modM : R2 := fun x y H Q => match x, y with
  | .int i, .int j => 0 < j ∧ Q (.int (i % j)) H
  | _, _ => False
theorem op_modM : OpR X (binaryOp .Mod) modM := opwk op_mod fun x y H Q q => by
  unfold modM at q
  split at q
  · exact ⟨_, _, rfl, rfl, q.1, q.2⟩
  · exact q.elim
def powM : R2 := fun x y H Q => match x, y with
  | .int i, .int j => CPow i j ∧ Q (.int (i ^ j.toNat)) H
  | _, _ => False
theorem op_powM : OpR X (binaryOp .Pow) powM := opwk op_pow fun x y H Q q => by
  unfold powM at q
  split at q
  · exact ⟨_, _, rfl, rfl, q.1, q.2⟩
  · exact q.elim
def negM : V → Hp → VK → Prop := fun x H Q => match x with
  | .int i => Q (.int (-i)) H
  | _ => False
theorem un_negM : UnR X (unaryOp .USub) negM := unwk un_neg fun x H Q q => by
  unfold negM at q
  split at q
  · exact ⟨_, rfl, q⟩
  · exact q.elim

/-! ### comparisons -/
def cmpM (f : Int → Int → Bool) : R2 := fun x y H Q => match x, y with
  | .int i, .int j => Q (.bl (f i j)) H
  | _, _ => False
theorem cmpwk {f : Int → Int → Bool} {g : Value → Value → Sem Value} (h : OpR X g (rI0 fun i j => .bl (f i j))) : OpR X g (cmpM f) := opwk h fun x y H Q q => by
  unfold cmpM at q
  split at q
  · exact ⟨_, _, rfl, rfl, q⟩
  · exact q.elim
theorem op_ltM : OpR X (compareOp .Lt) (cmpM fun i j => decide (i < j)) := cmpwk op_lt
theorem op_leM : OpR X (compareOp .LtE) (cmpM fun i j => decide (i ≤ j)) := cmpwk op_le
theorem op_gtM : OpR X (compareOp .Gt) (cmpM fun i j => decide (j < i)) := cmpwk op_gt
theorem op_geM : OpR X (compareOp .GtE) (cmpM fun i j => decide (j ≤ i)) := cmpwk op_ge
/-- ==: of plain values by the values; else of data -/
def eqM (K : PySem.W.Frag) : R2 := fun x y H Q => match x, y with
  | .int i, .int j => Q (.bl (decide (i = j))) H
  | .str i, .str j => Q (.bl (decide (i = j))) H
  | .bl i, .bl j => Q (.bl (decide (i = j))) H
  | .non, .non => Q (.bl true) H
  | .non, .int _ => Q (.bl false) H
  | .int _, .non => Q (.bl false) H
  | .non, .str _ => Q (.bl false) H
  | .str _, .non => Q (.bl false) H
  | .non, .bl _ => Q (.bl false) H
  | .bl _, .non => Q (.bl false) H
  | .int _, .str _ => Q (.bl false) H
  | .str _, .int _ => Q (.bl false) H
  | .bl _, .str _ => Q (.bl false) H
  | .str _, .bl _ => Q (.bl false) H
  | x, y => rEqD K x y H Q
theorem op_eqM (hu : X.A.units + 64 < cLine) : OpR X (compareOp .Eq) (eqM X.K) := opwk (OpR.or op_eq (op_eqD hu)) fun x y H Q q => by
  unfold eqM at q
  split at q
  all_goals first
    | exact .inl ⟨rfl, by simpa using q⟩
    | exact .inr q
def neM (K : PySem.W.Frag) : R2 := fun x y H Q => match x, y with
  | .int i, .int j => Q (.bl (!decide (i = j))) H
  | .str i, .str j => Q (.bl (!decide (i = j))) H
  | .bl i, .bl j => Q (.bl (!decide (i = j))) H
  | .non, .non => Q (.bl false) H
  | .non, .int _ => Q (.bl true) H
  | .int _, .non => Q (.bl true) H
  | .non, .str _ => Q (.bl true) H
  | .str _, .non => Q (.bl true) H
  | .non, .bl _ => Q (.bl true) H
  | .bl _, .non => Q (.bl true) H
  | .int _, .str _ => Q (.bl true) H
  | .str _, .int _ => Q (.bl true) H
  | .bl _, .str _ => Q (.bl true) H
  | .str _, .bl _ => Q (.bl true) H
  | x, y => rNeD K x y H Q
theorem op_neM (hu : X.A.units + 64 < cLine) : OpR X (compareOp .NotEq) (neM X.K) := opwk (OpR.or op_ne (op_neD hu)) fun x y H Q q => by
  unfold neM at q
  split at q
  all_goals first
    | exact .inl ⟨rfl, by simpa using q⟩
    | exact .inr q
/-- is, is not: None, True, False -/
def isV (x y : V) : Bool := match x, y with
  | .non, .non => true
  | .bl a, .bl b => a == b
  | _, _ => false
def litV (y : V) : Bool := match y with | .non => true | .bl _ => true | _ => false
def isM : R2 := fun x y H Q => match litV y with | true => Q (.bl (isV x y)) H | false => False
def notM : R2 := fun x y H Q => match litV y with | true => Q (.bl (!isV x y)) H | false => False
theorem lit_cases {y : V} (h : litV y = true) : y = .non ∨ ∃ b, y = .bl b := by
  cases y with
  | non => exact .inl rfl
  | bl b => exact .inr ⟨b, rfl⟩
  | _ => exact absurd (show false = true from h) (by decide)
theorem is_other {A : Around} {E : Value → Shared → Prop} {M : Model} {x : V} {v : Value} {b : Bool} {s : Shared} {Q : Value → Shared → Prop} (rx : RelV x v) (h : Q (.bool (isV x (.bl b))) s) : wpAny M A (compareOp .Is v (.bool b)) Q E s := by
  cases x with
  | bl a =>
    cases rx
    by_cases e : a = b
    · subst e; exact wpAny_is_self rfl (by simpa [isV] using h)
    · exact wpAny_is_other rfl (fun z => e (Value.bool.inj z)) (by rw [show isV (.bl a) (.bl b) = false from beq_eq_false_iff_ne.mpr e] at h; exact h)
  | non => cases rx; exact wpAny_is_other rfl (by intro z; cases z) h
  | int i => obtain ⟨t, rfl⟩ := rx; exact wpAny_is_other rfl (by intro z; cases z) h
  | str i => obtain ⟨t, rfl⟩ := rx; exact wpAny_is_other rfl (by intro z; cases z) h
  | byt i => obtain ⟨t, rfl⟩ := rx; exact wpAny_is_other rfl (by intro z; cases z) h
  | flt i => obtain ⟨t, rfl⟩ := rx; exact wpAny_is_other rfl (by intro z; cases z) h
  | ref a => cases rx; exact wpAny_is_other rfl (by intro z; cases z) h
  | ty n => cases rx; exact wpAny_is_other rfl (by intro z; cases z) h
theorem isnot_other {A : Around} {E : Value → Shared → Prop} {M : Model} {x : V} {v : Value} {b : Bool} {s : Shared} {Q : Value → Shared → Prop} (rx : RelV x v) (h : Q (.bool (!isV x (.bl b))) s) : wpAny M A (compareOp .IsNot v (.bool b)) Q E s := by
  cases x with
  | bl a =>
    cases rx
    by_cases e : a = b
    · subst e; exact wpAny_isNot_self rfl (by simpa [isV] using h)
    · exact wpAny_isNot_other rfl (fun z => e (Value.bool.inj z)) (by rw [show isV (.bl a) (.bl b) = false from beq_eq_false_iff_ne.mpr e] at h; exact h)
  | non => cases rx; exact wpAny_isNot_other rfl (by intro z; cases z) h
  | int i => obtain ⟨t, rfl⟩ := rx; exact wpAny_isNot_other rfl (by intro z; cases z) h
  | str i => obtain ⟨t, rfl⟩ := rx; exact wpAny_isNot_other rfl (by intro z; cases z) h
  | byt i => obtain ⟨t, rfl⟩ := rx; exact wpAny_isNot_other rfl (by intro z; cases z) h
  | flt i => obtain ⟨t, rfl⟩ := rx; exact wpAny_isNot_other rfl (by intro z; cases z) h
  | ref a => cases rx; exact wpAny_isNot_other rfl (by intro z; cases z) h
  | ty n => cases rx; exact wpAny_isNot_other rfl (by intro z; cases z) h
theorem isV_non (x : V) : isV x .non = decide (x = .non) := by cases x <;> rfl
theorem op_isM : OpR X (compareOp .Is) isM := by
  intro pins s σ H x y v u Q I rx ry q
  unfold isM at q
  split at q
  · rename_i e
    rcases lit_cases e with rfl | ⟨b, rfl⟩
    · exact op_isN pins s σ H x .non v u Q I rx ry ⟨rfl, by rw [← isV_non]; exact q⟩
    · cases ry
      exact is_other rx ⟨.bl _, H, I, rfl, q⟩
  · exact q.elim
theorem op_isNotM : OpR X (compareOp .IsNot) notM := by
  intro pins s σ H x y v u Q I rx ry q
  unfold notM at q
  split at q
  · rename_i e
    rcases lit_cases e with rfl | ⟨b, rfl⟩
    · exact op_notN pins s σ H x .non v u Q I rx ry ⟨rfl, by rw [← isV_non]; exact q⟩
    · cases ry
      exact isnot_other rx ⟨.bl _, H, I, rfl, q⟩
  · exact q.elim
/-- in: a list or a tuple of plain things; a sign in a text -/
def inM (K : PySem.W.Frag) (neg : Bool) : R2 := fun x y H Q => match y with
  | .str z => ∃ c : Nat, x = .str ⟨#[c]⟩ ∧ Q (.bl (if neg then !decide (c ∈ z.cps.toList) else decide (c ∈ z.cps.toList))) H
  | .ref p => ∃ xs, (SqL K H p xs ∨ SqT K H p xs) ∧ flatV x = true ∧ xs.all flatV = true ∧ Q (.bl (if neg then !inV x xs else inV x xs)) H
  | _ => False
theorem op_inM : OpR X (compareOp .In) (inM X.K false) := opwk (OpR.or op_in_sign op_in_seq) fun x y H Q q => by
  unfold inM at q
  split at q
  · obtain ⟨c, e, q⟩ := q
    exact .inl ⟨c, _, e, rfl, q⟩
  · obtain ⟨xs, h1, h2, h3, q⟩ := q
    exact .inr ⟨_, xs, rfl, h1, h2, h3, q⟩
  · exact q.elim
theorem op_notInM : OpR X (compareOp .NotIn) (inM X.K true) := opwk (OpR.or op_notIn_sign op_notIn_seq) fun x y H Q q => by
  unfold inM at q
  split at q
  · obtain ⟨c, e, q⟩ := q
    exact .inl ⟨c, _, e, rfl, q⟩
  · obtain ⟨xs, h1, h2, h3, q⟩ := q
    exact .inr ⟨_, xs, rfl, h1, h2, h3, q⟩
  · exact q.elim

/-! ### tests -/
variable {a b : Expr} {rest : List Expr} {ta tb : TE} {pos : Pos}
def tTs (t : TE) : TT := fun σ H Q => t σ H fun x H' => match x with | .bl k => Q k H' | _ => False
theorem pt_c {op : CmpOp} {r : R2} (ho : OpR X (compareOp op) r) (ha : PE X a ta) (hb : PE X b tb) (hm : behindInMarks op b = false := by first | exact nomark _ | rfl) : PT X (.Compare a [op] [b] pos) (tTs (tOp r ta tb)) := by
  refine ⟨fun pins s σ H Q I h => ?_⟩
  refine wpAny_isTrue_Compare1 (thn (ha.run pins s σ H _ I h) fun v s1 ⟨x, H1, I1, r1, q1⟩ => thn (hb.run pins s1 σ H1 _ I1 q1) fun u s2 ⟨y, H2, I2, r2, q2⟩ =>
    thn (ho pins s2 σ H2 x y v u _ I2 r1 r2 q2) fun c s3 ⟨z, H3, I3, r3, q3⟩ => ?_) hm
  cases z with
  | bl k => cases r3; exact wpAny_truthy_bool ⟨H3, I3, q3⟩
  | _ => exact (show False from q3).elim
theorem pe_c {op : CmpOp} {r : R2} (ho : OpR X (compareOp op) r) (ha : PE X a ta) (hb : PE X b tb) (hm : behindInMarks op b = false := by first | exact nomark _ | rfl) : PE X (.Compare a [op] [b] pos) (tOp r ta tb) := pe_cmpR ho ha hb hm
/-- any value's truth -/
def tTr (K : PySem.W.Frag) (t : TE) : TT := fun σ H Q => t σ H fun x H' => match x with
  | .bl k => Q k H'
  | .non => Q false H'
  | .int i => Q (i != 0) H'
  | .str y => y.length ≤ sizeLine ∧ Q ((y.length : Int) != 0) H'
  | .ref p => (∃ xs, SqL K H' p xs ∧ Q (!xs.isEmpty) H') ∨ (∃ xs, SqT K H' p xs ∧ Q (!xs.isEmpty) H') ∨ ∃ kvs, H' p = some (.dK kvs) ∧ Q (!kvs.isEmpty) H'
  | _ => False
theorem pt_tr (ha : PE X a ta) (he : ∀ whole, isTrue a X.env whole = (do let v ← whole; standAt a.pos; holding [v] (truthy v)) := by intro _; rfl) : PT X a (tTr X.K ta) := by
  refine ⟨fun pins s σ H Q I h => ?_⟩
  refine isTrue_plain (thn (ha.run pins s σ H _ I h) fun v s1 ⟨x, H1, I1, r1, q1⟩ => tru_ok pins s1 σ H1 x v Q I1 r1 ?_) (he _)
  cases x with
  | bl k => exact ⟨k, rfl, q1⟩
  | non => exact ⟨false, rfl, q1⟩
  | int i => exact ⟨_, rfl, q1⟩
  | str y => exact ⟨_, ⟨q1.1, rfl⟩, q1.2⟩
  | ref p =>
    rcases (show (∃ xs, SqL X.K H1 p xs ∧ Q (!xs.isEmpty) H1) ∨ (∃ xs, SqT X.K H1 p xs ∧ Q (!xs.isEmpty) H1) ∨ ∃ kvs, H1 p = some (.dK kvs) ∧ Q (!kvs.isEmpty) H1 from q1) with ⟨xs, h, q⟩ | ⟨xs, h, q⟩ | ⟨xs, h, q⟩
    · exact ⟨_, .inl ⟨xs, h, rfl⟩, q⟩
    · exact ⟨_, .inr (.inl ⟨xs, h, rfl⟩), q⟩
    · exact ⟨_, .inr (.inr ⟨xs, h, rfl⟩), q⟩
  | _ => exact (show False from q1).elim
def tAndM (ta tb : TE) : TE := fun σ H Q => ta σ H fun x H1 => match x with | .bl c => (if c = true then tb σ H1 Q else Q (.bl false) H1) | _ => False
def tOrM (ta tb : TE) : TE := fun σ H Q => ta σ H fun x H1 => match x with | .bl c => (if c = true then Q (.bl true) H1 else tb σ H1 Q) | _ => False
def tNotM (ta : TE) : TE := fun σ H Q => ta σ H fun x H1 => match x with | .bl c => Q (.bl (!c)) H1 | _ => False
theorem pe_andM (ha : PE X a ta) (hb : PE X (.BoolOp .And (b :: rest) pos) tb) : PE X (.BoolOp .And (a :: b :: rest) pos) (tAndM ta tb) := by
  refine ⟨fun pins s σ H Q I h => ?_⟩
  refine BoolOp_and (thn (ha.run pins s σ H _ I h) fun v s1 ⟨x, H1, I1, r1, q1⟩ => ?_)
  cases x with
  | bl c =>
    cases r1
    refine wpAny_truthy_bool ?_
    cases c with
    | true => exact hb.run pins s1 σ H1 Q I1 q1
    | false => exact ⟨.bl false, H1, I1, rfl, q1⟩
  | _ => exact (show False from q1).elim
theorem pe_orM (ha : PE X a ta) (hb : PE X (.BoolOp .Or (b :: rest) pos) tb) : PE X (.BoolOp .Or (a :: b :: rest) pos) (tOrM ta tb) := by
  refine ⟨fun pins s σ H Q I h => ?_⟩
  refine BoolOp_or (thn (ha.run pins s σ H _ I h) fun v s1 ⟨x, H1, I1, r1, q1⟩ => ?_)
  cases x with
  | bl c =>
    cases r1
    refine wpAny_truthy_bool ?_
    cases c with
    | false => exact hb.run pins s1 σ H1 Q I1 q1
    | true => exact ⟨.bl true, H1, I1, rfl, q1⟩
  | _ => exact (show False from q1).elim
theorem pe_notM (ha : PE X a ta) : PE X (.UnaryOp .Not a pos) (tNotM ta) := by
  refine ⟨fun pins s σ H Q I h => ?_⟩
  refine UnaryOp_ (thn (ha.run pins s σ H _ I h) fun v s1 ⟨x, H1, I1, r1, q1⟩ => ?_)
  cases x with
  | bl c => cases r1; exact not_of (wpAny_truthy_bool ⟨.bl (!c), H1, I1, rfl, q1⟩)
  | _ => exact (show False from q1).elim

/-! ### subscripts, slices, calls of built-ins -/
def ixM (K : PySem.W.Frag) : R2 := fun x y H Q => match x, y with
  | .str z, .int i => z.length ≤ sizeLine ∧ ∃ c, atI z.cps.toList i = some c ∧ Q (.str ⟨#[c]⟩) H
  | .ref p, .int i => ∃ xs, (SqL K H p xs ∨ SqT K H p xs) ∧ ∃ v, atI xs i = some v ∧ Q v H
  | _, _ => False
theorem ix_M : IxR X (ixM X.K) := ixwk ix_seq fun x y H Q q => by
  unfold ixM at q
  split at q
  · obtain ⟨h, c, e, q⟩ := q
    exact .inr (.inr ⟨_, _, c, rfl, rfl, h, e, q⟩)
  · obtain ⟨xs, h | h, v, e, q⟩ := q
    · exact .inl ⟨_, xs, _, v, rfl, rfl, h, e, q⟩
    · exact .inr (.inl ⟨_, xs, _, v, rfl, rfl, h, e, q⟩)
  · exact q.elim
theorem e_ix (ha : PE X a ta) (hb : PE X b tb) (hs : PlainIx b := by intro _ _; rfl) : PE X (.Subscript a b pos) (tOp (ixM X.K) ta tb) := pe_ix ix_M ha hb hs
def slM (K : PySem.W.Frag) : V → Option Int → Option Int → Hp → VK → Prop := fun x lo hi H Q => match x with
  | .str z => z.length ≤ sizeLine ∧ Q (.str (cutS z lo hi)) H
  | .ref p => (∃ xs, SqL K H p xs ∧ ∀ q, H q = none → Q (.ref q) (upd H q (.lst (cutV xs lo hi)))) ∨ rSlT K (.ref p) lo hi H Q
  | _ => False
theorem sl_M : SlR X (slM X.K) := slwk (SlR.or sl_str (SlR.or sl_list sl_tup)) fun x lo hi H Q q => by
  unfold slM at q
  split at q
  · exact .inl ⟨_, rfl, q.1, q.2⟩
  · rcases q with ⟨xs, h, q⟩ | q
    · exact .inr (.inl ⟨_, xs, rfl, h, q⟩)
    · exact .inr (.inr q)
  · exact q.elim
def intM : List V → Hp → VK → Prop := fun xs H Q => match xs with
  | [.int i] => Q (.int i) H
  | [.bl k] => Q (.int (if k then 1 else 0)) H
  | [.str a] => ∃ n, PySem.intText? a = some n ∧ a.length ≤ 640 ∧ Q (.int n) H
  | _ => False
theorem call_intM : CallR X (.type "int") intM := cwk (CallR.or call_int1 call_int_str) fun xs H Q q => by
  unfold intM at q
  split at q
  · exact .inl (.inl ⟨_, rfl, q⟩)
  · exact .inl (.inr ⟨_, rfl, q⟩)
  · obtain ⟨n, h1, h2, q⟩ := q
    exact .inr ⟨_, n, rfl, h1, h2, q⟩
  · exact q.elim
def lenM (K : PySem.W.Frag) : List V → Hp → VK → Prop := fun xs H Q => match xs with
  | [.str z] => z.length ≤ sizeLine ∧ Q (.int z.length) H
  | [.ref p] => (∃ xs, (SqL K H p xs ∨ SqT K H p xs) ∧ Q (.int xs.length) H) ∨ ∃ kvs, H p = some (.dK kvs) ∧ Q (.int kvs.length) H
  | _ => False
theorem call_lenM : CallR X (.builtin "len") (lenM X.K) := cwk (CallR.or call_len_str (CallR.or call_len_seq call_lenD)) fun xs H Q q => by
  unfold lenM at q
  split at q
  · exact .inl ⟨_, rfl, q.1, q.2⟩
  · rcases q with ⟨xs, h, q⟩ | ⟨kvs, h, q⟩
    · exact .inr (.inl ⟨_, xs, rfl, h, q⟩)
    · exact .inr (.inr ⟨_, kvs, rfl, h, q⟩)
  · exact q.elim

/-! ### the same, the written part named -/
theorem addK (K : PySem.W.Frag) (h : X.K = K := by rfl) : OpR X (binaryOp .Add) (addM K) := h ▸ op_addM
theorem eqK (K : PySem.W.Frag) (hu : X.A.units + 64 < cLine) (h : X.K = K := by rfl) : OpR X (compareOp .Eq) (eqM K) := h ▸ op_eqM hu
theorem neK (K : PySem.W.Frag) (hu : X.A.units + 64 < cLine) (h : X.K = K := by rfl) : OpR X (compareOp .NotEq) (neM K) := h ▸ op_neM hu
theorem inK (K : PySem.W.Frag) (h : X.K = K := by rfl) : OpR X (compareOp .In) (inM K false) := h ▸ op_inM
theorem notInK (K : PySem.W.Frag) (h : X.K = K := by rfl) : OpR X (compareOp .NotIn) (inM K true) := h ▸ op_notInM
theorem pt_t (K : PySem.W.Frag) (ha : PE X a ta) (he : ∀ whole, isTrue a X.env whole = (do let v ← whole; standAt a.pos; holding [v] (truthy v)) := by intro _; rfl) (h : X.K = K := by rfl) : PT X a (tTr K ta) := h ▸ pt_tr ha he
theorem e_x (K : PySem.W.Frag) (ha : PE X a ta) (hb : PE X b tb) (hs : PlainIx b := by intro _ _; rfl) (h : X.K = K := by rfl) : PE X (.Subscript a b pos) (tOp (ixM K) ta tb) := h ▸ e_ix ha hb hs
theorem slK (K : PySem.W.Frag) (h : X.K = K := by rfl) : SlR X (slM K) := h ▸ sl_M
theorem lenK (K : PySem.W.Frag) (h : X.K = K := by rfl) : CallR X (.builtin "len") (lenM K) := h ▸ call_lenM
theorem listK (K : PySem.W.Frag) (h : X.K = K := by rfl) : CallR X (.type "list") (fun xs H Q => ∃ p ys, xs = [.ref p] ∧ (SqL K H p ys ∨ SqT K H p ys) ∧ ∀ l, H l = none → Q (.ref l) (upd H l (.lst ys))) := h ▸ call_list_of
theorem tupleK (K : PySem.W.Frag) (h : X.K = K := by rfl) : CallR X (.type "tuple") (fun xs H Q => ∃ p ys, xs = [.ref p] ∧ ((SqL K H p ys ∧ ∀ l, H l = none → Q (.ref l) (upd H l (.tup ys))) ∨ (SqT K H p ys ∧ Q (.ref p) H))) := h ▸ call_tuple_of
theorem isiK (K : PySem.W.Frag) (h : X.K = K := by rfl) : CallR X (.builtin "isinstance") (rIsi K) := h ▸ call_isi
theorem allK (K : PySem.W.Frag) (hc : X.calm = true) (h : X.K = K := by rfl) : CallR X (.builtin "all") (rAll K) := h ▸ cr_all hc
theorem anyK (K : PySem.W.Frag) (hc : X.calm = true) (h : X.K = K := by rfl) : CallR X (.builtin "any") (rAny K) := h ▸ cr_any hc
theorem sortedK (K : PySem.W.Frag) (h : X.K = K := by rfl) : CallR X (.builtin "sorted") (rSorted K) := h ▸ cr_sorted
theorem sumK (K : PySem.W.Frag) (hc : X.calm = true) (h : X.K = K := by rfl) : CallR X (.builtin "sum") (rSum K) := h ▸ cr_sum hc

/-! ### calls of own defs -/
structure Cal (P : Program) (w : World) (K : PySem.W.Frag) (mg : Str → Option Value) (base : Heap) (CX : CXT) (k : Nat) (x : Str) (f : Addr) (fd : FuncData) (ps : List Str) (sp : Sp) : Prop where
  G : FnOk P w K mg base CX k f fd ps sp
  b : Binds K fd ps []
  kp : PySem.W.keepIn K (.ref f) = true
  m : mg x = some (.ref f)
end
end El

set_option Elab.async false
set_option linter.all false
set_option maxRecDepth 100000
set_option maxHeartbeats 4000000
/-! Own words: an own exception's first row super().__init__(e), the rest of its __init__ by the layer. -/
namespace El
open PySem PySem.Spec PyProof.Rows L2 NdefX
abbrev supRow (p0 p1 p2 p3 p4 : Pos) (e1 : Expr) : Stmt := .Expr (.Call (.Attribute (.Call (.Name "super" p0) [] [] p1) "__init__" p2) [e1] [] p3) p4
abbrev supNF (name qual : Str) (params : Arguments) (body : List Stmt) (scope : Scope) (cc cda : Addr) : NF := ⟨name, qual, params, body, scope, [("__class__", cc)], cda⟩

theorem inv_unpin {X : Cx} {pins : List (Addr × Obj)} {σ : L2.St} {H : Hp} {s : Shared} (I : Inv X pins σ H s) : Inv X [] σ H s := I.pins_of fun p hp => absurd hp (by simp)

theorem fn_super {P : Program} {w : World} {K : PySem.W.Frag} {mg : Str → Option Value} {base : Heap} {CX : CXT} {k : Nat} {f cc cda D : Addr} {name qual : Str} {params : Arguments} {scope : Scope} {doc pm ct oc ccl cl : Value} {od cdd cld : Option Addr} {osl ccs csl : Array (Option Value)} {vs0 : Array Value} {file : Str} {tf : Tok} {cdD : ClassData}
    {N ps : List Str} {sp : Sp} {e1 : Expr} {rest : List Stmt} {p0 p1 p2 p3 p4 : Pos} {ar : Arg}
    (lk : K.lookup f = some ⟨oc, od, .func (PySem.W.fnX name qual params (supRow p0 p1 p2 p3 p4 e1 :: rest) scope [("__class__", cc)] .none .none doc pm none (.ref cda) ct), osl⟩)
    (hcd : PySem.W.codeIn K (.ref cda) qual = true) (S : NScope N ps ["__class__"] scope)
    (hcode : K.lookup cda = some ⟨ccl, cdd, .fields vs0, ccs⟩) (hvs : vs0[2]? = some (.str file tf)) (hfile : ((P.main.file : Str) == file) = true)
    (hcell : K.lookup cc = some ⟨cl, cld, .cell (some (.ref D)), csl⟩) (hD : PySem.W.clsIn K D = some cdD) (hsuper : mg "super" = none)
    (hop : PySem.W.nsIn K PySem.cStatics "thirdparty.any" = some none)
    (hp : (params.posonlyargs ++ params.args).head? = some ar) (hps : ps[0]? = some ar.arg)
    (hks : scope.names.lookup ("super" : Str) = some .globalImplicit) (htop : (P.main.scope.names.lookup ("super" : Str)).isSome = false)
    (hboot : bootBuiltins "super" = some (.type "super"))
    (len : ∀ vs H Q E, sp vs H Q E → vs.length = ps.length)
    (hbody : ∀ (A : Around) (outer : List Env) (s : Shared) (H : Hp) (vs : List V) (Q : VK) (E : XK), Room k (A.deeper (envF (supNF name qual params (supRow p0 p1 p2 p3 p4 e1 :: rest) scope cc cda) f s.heap.objs.size)) → sp vs H Q E →
      ∃ (a C : Addr) (ta : TA) (t : TS), vs[0]? = some (.ref a) ∧ H a = some (exo a C none) ∧ OexC K C ∧ PySem.W.mroIn K C (.ref D) = some true ∧ PySem.W.ks_superIn K C D "__init__" = some (some (.builtin "ValueError.__init__")) ∧ PySem.W.subIn K (.ref C) (.type "ValueError") = some true ∧
        PA (ncx CX P w K mg base N (supNF name qual params (supRow p0 p1 p2 p3 p4 e1 :: rest) scope cc cda) f A outer s H E) [e1] ta ∧
        PSs (ncx CX P w K mg base N (supNF name qual params (supRow p0 p1 p2 p3 p4 e1 :: rest) scope cc cda) f A outer s H E) rest t ∧
        ta (startF N vs [none]) H fun ws H1 => H1 a = some (exo a C none) ∧ ws.length ≤ 1000 ∧ t { nx := fun _ H' => Q .non H', rt := Q } (startF N vs [none]) H1)
    (hst : ∀ env : Env, starEach [e1] env = (false, eval e1 env) :: starEach [] env) {pl : Env → Sem Bool}
    (he : ∀ env : Env, eval (.Call (.Attribute (.Call (.Name "super" p0) [] [] p1) "__init__" p2) [e1] [] p3) env = (do
      let ov ← attributeBase (.Call (.Name "super" p0) [] [] p1) "__init__" env (eval (.Call (.Name "super" p0) [] [] p1) env)
      standAt p2.atName
      let (f, first) ← holding [ov] (getMethod ov "__init__" (pl env))
      callWith p3 f first (backTo p3 (starEach [e1] env)) []))
    (hsw : ∀ env : Env, swapsWith (.Call (.Attribute (.Call (.Name "super" p0) [] [] p1) "__init__" p2) [e1] [] p3) none p4.line env = pure false) :
    FnOk P w K mg base CX (k + 1) f (PySem.W.fnX name qual params (supRow p0 p1 p2 p3 p4 e1 :: rest) scope [("__class__", cc)] .none .none doc pm none (.ref cda) ct) ps sp := by
  refine ⟨len, fun A outer s H args us vs Q E hr e0 hb r hsp => ?_⟩
  have hl := len _ _ _ _ hsp
  have KX : K.In s.heap := e0.mod.kin.keeps fun b o e => (e0.bs b o e).1
  have lim : s.heap.NoLimit := e0.mod.nolimit.keeps fun b o e => (e0.bs b o e).1
  have hkc : scope.names.lookup ("__class__" : Str) = some .free := S.frk _ (List.mem_singleton.mpr rfl)
  refine PySem.ks_codeAny_call_defAt (fd := PySem.W.fnX name qual params (supRow p0 p1 p2 p3 p4 e1 :: rest) scope [("__class__", cc)] .none .none doc pm none (.ref cda) ct) (body := supRow p0 p1 p2 p3 p4 e1 :: rest) (binds := ps.zip us) hr.depth (KX _ _ lk) rfl lim
    (PySem.W.codeRec_of KX hcd) rfl hb S.nocell (fun ⟨n, _⟩ hy => S.par n (List.of_mem_zip hy).1) (fun h₁ hns kp => ?_) S.co S.gen S.kind
  obtain ⟨a, C, ta, t, hv0, hexo, TC, hmro, hsup, hsubV, hPA, hPS, hq⟩ := hbody A outer s H vs Q E (hr.deeper _) hsp
  have bcc : base.get? cc = some ⟨cl, cld, .cell (some (.ref D)), csl⟩ := e0.mod.kin _ _ hcell
  have CC : CellsAt [(("__class__" : Str), cc)] ["__class__"] [none] s.heap H := by
    refine ⟨rfl, fun y c e => ?_, fun x y c e1 e2 => ?_, fun i y hi => ?_⟩
    · have : c = cc := by
        simp only [List.lookup] at e
        split at e
        · exact (Option.some.inj e).symm
        · cases e
      subst this
      exact ⟨(e0.bs _ _ bcc).2, _, _, KX _ _ hcell, rfl⟩
    · simp only [List.lookup] at e1 e2
      split at e1
      · rename_i h1
        split at e2
        · rename_i h2
          rw [beq_iff_eq] at h1 h2
          rw [h1, h2]
        · cases e2
      · cases e1
    · have : i = 0 ∧ y = "__class__" := by
        cases i with
        | zero => simp at hi; exact ⟨rfl, hi.symm⟩
        | succ i => simp at hi
      obtain ⟨rfl, rfl⟩ := this
      exact ⟨cc, by simp [List.lookup], fun v hv => by simp at hv⟩
  have I : Inv (ncx CX P w K mg base N (supNF name qual params (supRow p0 p1 p2 p3 p4 e1 :: rest) scope cc cda) f A outer s H E) [] (startF N vs [none]) H { s with heap := h₁, toks := s.toks + (ps.zip us).length } :=
    inv_startN (F := supNF name qual params (supRow p0 p1 p2 p3 p4 e1 :: rest) scope cc cda) S hr.hd e0 hl r CC hns kp
  have KX1 : K.In h₁ := fun b o e => kp b o (KX b o e)
  obtain ⟨oD, hD1, hD2⟩ : ∃ oD, h₁.get? D = some oD ∧ oD.data = .cls cdD := by
    unfold PySem.W.clsIn at hD
    split at hD
    · rename_i c d cd' sl ho
      cases hD
      exact ⟨_, KX1 _ _ ho, rfl⟩
    · cases hD
  have ndP : ps.Nodup := by
    have q := S.nd.sublist (List.take_sublist (ps.length + 1) N)
    rw [show N.take (ps.length + 1) = ps ++ [("__class__" : Str)] from S.pre] at q
    exact (List.nodup_append.mp q).1
  obtain ⟨u0, hu0, ru0⟩ := r.get hv0
  obtain rfl : u0 = Value.ref a := ru0
  obtain ⟨t1, hga⟩ := exo_at I.hok hexo
  have hint : interactive (envF (supNF name qual params (supRow p0 p1 p2 p3 p4 e1 :: rest) scope cc cda) f s.heap.objs.size) = false := by
    have hk := S.kind
    unfold interactive
    simp [Env.blockKind, hk]
  refine PySem.ks_wpAt_execs_cons (PySem.ks_wpAt_Expr_any (PySem.ks_wpAt_MethodCall (PySem.ks_wpAt_super_base (ar := ar) hks hkc (by decide +kernel) rfl (KX1 _ _ lk) rfl hp rfl (KX1 _ _ hcode) rfl hvs hfile htop ?_) (he _)) hint (hsw _))
  obtain ⟨mb, hb1, hb2⟩ := e0.mod.blt
  have kb : ∀ b o, base.get? b = some o → h₁.get? b = some o := fun b o e => kp b o (e0.bs b o e).1
  refine PySem.W.ks_loadName_global S.kind hks (Calls.loadGlobal_builtin (e0.mod.glob.keeps kb) hsuper (hb1.keeps kb) ((hb2 _ (by decide)).trans hboot) ⟨rfl, ?_⟩)
  refine wpAny_loadName_free S.kind hkc rfl ⟨_, KX1 _ _ hcell, rfl⟩ ?_
  refine wpAny_loadName_local S.kind (S.par _ (List.mem_of_getElem? hps)) hns (zip_look ndP hps hu0) ?_
  refine PySem.ks_wpAny_isType_cls hD1 hD2 ⟨rfl, ?_⟩
  refine PySem.ks_wpAny_call_super hD1 hD2 hga rfl (fun c e => by cases e) (PySem.W.looks_mroIn KX1 hmro) (fun h2 eso k2 => ?_)
  have I2 : Inv (ncx CX P w K mg base N (supNF name qual params (supRow p0 p1 p2 p3 p4 e1 :: rest) scope cc cda) f A outer s H E) [] (startF N vs [none]) H { s with heap := h2, toks := s.toks + (ps.zip us).length } := I.kept k2
  have KX2 : K.In h2 := fun b o e => k2 b o (KX1 b o e)
  cases hcC : PySem.W.clsIn K C with
  | none => unfold PySem.W.ks_superIn at hsup; rw [hcC] at hsup; cases hsup
  | some cd =>
  unfold PySem.W.ks_superIn at hsup
  rw [hcC] at hsup
  have hga2 := k2 _ _ hga
  have INS : PySem.W.InstAt h2 a { cls := .ref C, dict := none, data := .fields #[.ref t1, .none, .none, .none, .bool false, .none] } C none := ⟨hga2, rfl, rfl, trivial⟩
  have hI : PySem.W.Looks (model P w) h2 (isInstance (.ref a) (.type "ValueError")) true := INS.type.andThen (PySem.W.looks_subIn KX2 hsubV)
  refine PySem.W.kxs_getMethod PySem.W.kxs_ValueError eso (PySem.W.looks_opaque KX2 hop) (l₀ := cd.mro) (fun A Q E s k q => wpAny_bind ((PySem.W.looks_clsIn KX2 hcC) A _ E s k (wpAny_pure q))) rfl KX2 hsup hI (PySem.W.ks_ne KX2 INS hcC) (by decide +kernel) ?_
  have I3 : Inv (ncx CX P w K mg base N (supNF name qual params (supRow p0 p1 p2 p3 p4 e1 :: rest) scope cc cda) f A outer s H E) [] (startF N vs [none]) H { s with heap := h2.push (PySem.W.kxs_mw "ValueError.__init__" a), toks := s.toks + (ps.zip us).length + 1 } := I2.kept fun b o e => Heap.get?_push_of_some _ e
  have hu : (h2.push (PySem.W.kxs_mw "ValueError.__init__" a)).get? h2.objs.size = some (PySem.W.kxs_mw "ValueError.__init__" a) := Heap.get?_push_at rfl rfl
  have hfree : H h2.objs.size = none := I2.hok.fresh (Nat.le_refl _)
  have I4 : Inv (ncx CX P w K mg base N (supNF name qual params (supRow p0 p1 p2 p3 p4 e1 :: rest) scope cc cda) f A outer s H E) [(h2.objs.size, PySem.W.kxs_mw "ValueError.__init__" a)] (startF N vs [none]) H { s with heap := h2.push (PySem.W.kxs_mw "ValueError.__init__" a), toks := s.toks + (ps.zip us).length + 1 } :=
    I3.pins_of fun p hp => by
      obtain rfl := List.mem_singleton.mp hp
      exact ⟨hu, hfree, fun z => absurd I2.lt (by rw [← z]; exact Nat.lt_irrefl _), I2.nofs (Nat.le_refl _), fun v z => by cases z⟩
  show wpAny _ _ (callWith p3 (.ref h2.objs.size) [] (backTo p3 (starEach [e1] _)) []) _ _ _
  rw [hst]
  refine PySem.W.kxs_callWith (i := "ValueError.__init__") (x := a) rfl (Calls.evalArgs_plain ?_)
  have hrun := hPA.run p3 _ _ _ _ _ I4 hq
  rw [hst] at hrun
  refine thn hrun fun us' s4 ⟨ws, H1, I5, r5, hexo1, hws, hq1⟩ => ?_
  have hu5 : s4.heap.get? h2.objs.size = some (PySem.W.kxs_mw "ValueError.__init__" a) := (I5.pin (h2.objs.size, PySem.W.kxs_mw "ValueError.__init__" a) (List.mem_append_right _ (List.mem_singleton.mpr rfl))).1
  refine ⟨hu5, ?_⟩
  obtain ⟨nm, q9, N9, bs, bm, sn, sub, ab, col, dd, k0, k1, k2', k3, k5, hC, hbm⟩ := TC.cls
  obtain ⟨t2, hga5⟩ := exo_at I5.hok hexo1
  have hC5 := I5.kIn _ _ hC
  have hus : us'.length ≤ sizeLine := by
    rw [← Paired.length r5, sizeLine_eq]
    omega
  obtain ⟨h5, g5, d5, tk5, os5⟩ := s4
  show wpAny _ _ (call (.ref h2.objs.size) ([] ++ us')) _ _ _
  rw [List.nil_append]
  refine wpAny_call (codeAny_of_tree ?_)
  show wpAny _ _ (callAny (.ref h2.objs.size) ⟨us', []⟩) _ _ _
  simp only [callAny]
  refine wpAny_bind (wpAny_load hu5 ?_)
  simp only [PySem.W.kxs_mw, show (Value.type "method-wrapper" == Value.type "method" || Value.type "method-wrapper" == Value.type "builtin_function_or_method" || Value.type "method-wrapper" == Value.type "method-wrapper") = true by decide, if_true]
  refine PySem.W.KFB.if_so (by decide) ?_
  refine wpAny_bind (PySem.W.check_bound_init PySem.F.excBase_ValueError.toExcCallFacts hC5 hga5 rfl ?_)
  refine wpAny_bind (wpAny_pure (wpAny_pure ?_))
  refine ⟨plainId_quiet PySem.F.excBase_ValueError.init.plain _, codeAny_builtin PySem.F.excBase_ValueError.initEntry ?_⟩
  refine PySem.W.exc_init_tree (cls := .ref C) (t0 := t2) (dv := none) (c2 := .none) (c3 := .none) (b4 := .bool false) hga5 hus (fun h6 k6 e6 _ => ?_)
  have J := I5.write (t' := tk5) (x := a) (e := a) (o := exo a C none) (by rw [hexo1]; exact True.intro) (.inl rfl) k6 ⟨_, e6⟩ (exo_ok e6)
  have eu : upd H1 a (exo a C none) = H1 := by
    funext b
    by_cases hb : b = a
    · rw [hb, upd_same, hexo1]
    · rw [upd_ne hb]
  rw [eu] at J
  have J0 := inv_unpin J
  refine wpAt_of_wpAny ?_
  refine wpAny_mono (hPS.run [] _ _ H1 _ J0 hq1) (fun fl s' hs => ?_) fun e s' hs => hs
  have fin : ∀ {σ' : L2.St} {H' : Hp} {v : V} {u : Value}, Inv (ncx CX P w K mg base N (supNF name qual params (supRow p0 p1 p2 p3 p4 e1 :: rest) scope cc cda) f A outer s H E) [] σ' H' s' → L2.RelV v u → Q v H' → CE outer P w H s Q u s' :=
    fun {σ' H' v u} J rv q => ⟨v, H', J.os, J.bare, J.base, J.hok, rv, q⟩
  cases fl with
  | ret u =>
    obtain ⟨v, σ', H', J, rv, q⟩ := hs
    exact fin J rv q
  | next =>
    obtain ⟨σ', H', J, q⟩ := hs
    exact fin (v := V.non) (u := Value.none) J rfl q
  | brk =>
    obtain ⟨_, _, _, q⟩ := hs
    exact False.elim q
  | cont =>
    obtain ⟨_, _, _, q⟩ := hs
    exact False.elim q
end El

set_option Elab.async false
set_option linter.all false
set_option maxRecDepth 100000
set_option maxHeartbeats 4000000
/-! Own words: what the written part says of an own exception class, isinstance of what an except clause holds. -/
namespace El
open PySem PySem.Spec PyProof.Rows L2 NdefX
/-- isinstance(e, c), e the exception that the suite holds, with a dict -/
def rIsX (K : PySem.W.Frag) (cls : Value) (d : Option Addr) (a : Addr) : List V → Hp → VK → Prop := fun xs H Q => ∃ (D dd : Addr) (fs : List (Str × V)) (c : V) (cv : Value) (b : Bool), xs = [.ref a, c] ∧ cls = .ref D ∧ d = some dd ∧ H dd = some (.xd fs) ∧ ExcC K D ∧ (∀ u, RelV c u → u = cv) ∧ PySem.W.kitOne K (.ref D) cv = some b ∧ Q (.bl b) H
theorem call_isX {X : Cx} {a : Addr} {oe : Obj} {cls : Value} {d : Option Addr} {pn : List (Addr × Obj)} (hz : Zc cls d oe) (hf : ∃ vs, oe.data = .fields vs) : CallR (X.suite a ((a, oe) :: pn)) (.builtin "isinstance") (rIsX X.K cls d a) := by
  intro pins s σ H xs us Q I r h
  obtain ⟨D, dd, fs, c, cv, b, rfl, rfl, rfl, ea, C, hcv, e, q⟩ := h
  cases r with
  | cons rx rr =>
    cases rr with
    | cons rt rr =>
      cases rr
      cases rx
      have ec := hcv _ rt
      subst ec
      obtain ⟨hget, _⟩ := I.pin (a, oe) (List.mem_append.mpr (.inl List.mem_cons_self))
      obtain ⟨vs, hv⟩ := hf
      have hx : ObjOk X.prog X.w H s.heap dd (.xd fs) := I.hok dd _ ea
      obtain ⟨mA, hns, hr⟩ := hx
      obtain ⟨od, ho, hl⟩ := lookIn_ns hns
      have J : PySem.W.InstAt s.heap a oe D (some od) := ⟨hget, hz.1, by unfold PySem.W.notCls; rw [hv] <;> rfl, by rw [hz.2]; exact ho⟩
      obtain ⟨cdD, hcD, _⟩ := PySem.W.any_some C.hd
      exact PySem.W.kia_one (PySem.W.kitx_exc (by rw [hcD]; rfl) C.hg C.hk C.hs C.ha C.hn C.ht C.hm) I.kIn J e (fun z => nomatch z) fun tk => ⟨.bl b, H, I.kept (t' := tk) fun _ _ z => z, rfl, q⟩
/-- an own exception class with its own __init__ -/
structure ExK (K : PySem.W.Frag) (C fI : Addr) (fields : List Str) : Prop where
  oex : OexC K C
  sup : PySem.W.ks_superIn K C C "__init__" = some (some (.builtin "ValueError.__init__"))
  subV : PySem.W.subIn K (.ref C) (.type "ValueError") = some true
  mro : PySem.W.mroIn K C (.ref C) = some true
  iC : PySem.W.findIn K (.ref C) "__init__" = some (some (.ref fI))
  tI : PySem.W.typeIn K (.ref fI) = some (.type "function")
  no : ∀ f ∈ fields, PySem.W.findIn K (.ref C) f = some none
  xf : XfC K C
  is : ExcC K C
/-- what a suite that catches it must know -/
structure ExV (K : PySem.W.Frag) (C : Addr) (fields : List Str) : Prop where
  no : ∀ f ∈ fields, PySem.W.findIn K (.ref C) f = some none
  xf : XfC K C
  is : ExcC K C
/-- the i-th def of the class body -/
def mthS (s : Stmt) (i : Nat) : Stmt := match s with
  | .ClassDef _ _ _ b _ _ _ _ _ _ _ => b.getD i (.Pass ⟨0, 0, 0, 0⟩)
  | _ => .Pass ⟨0, 0, 0, 0⟩
/-- the same, from what the written part answers -/
theorem exk_mk {K : PySem.W.Frag} {C fI N : Addr} {fields : List Str} {nm q : Str} {bs bm : List Value} {sn : List Str} {sub : List Value} {ab : Bool} {col : Option Bool} {dd : Option Addr} {k0 k1 k2 k3 k5 : Option Value}
    (cls : K.lookup C = some (excClassObj nm q C N bs bm true sn sub ab col dd k0 k1 k2 k3 k5 "ValueError.__new__")) (ref : PySem.HandSPX.refsVE bm = true)
    (sa : PySem.W.findIn K (.ref C) "__setattr__" = some (some (.builtin "object.__setattr__"))) (exC : PySem.W.subIn K (.ref C) (.type "BaseException") = some true) (tyC : PySem.W.typeIn K (.ref C) = some (.type "type")) (kC : PySem.W.keepIn K (.ref C) = true)
    (sup : PySem.W.ks_superIn K C C "__init__" = some (some (.builtin "ValueError.__init__"))) (subV : PySem.W.subIn K (.ref C) (.type "ValueError") = some true) (mro : PySem.W.mroIn K C (.ref C) = some true)
    (iC : PySem.W.findIn K (.ref C) "__init__" = some (some (.ref fI))) (tI : PySem.W.typeIn K (.ref fI) = some (.type "function")) (no : ∀ f ∈ fields, PySem.W.findIn K (.ref C) f = some none)
    (ga : PySem.W.findIn K (.ref C) "__getattribute__" = some (some (.builtin "BaseException.__getattribute__"))) (gg : PySem.W.findIn K (.ref C) "__getattr__" = some none) (hd : PySem.W.hasDictIn K C = true)
    (hcl : PySem.W.findIn K (.ref C) "__class__" = some (some (.builtin "object.__class__"))) (hn : PySem.W.specialIn K (.builtin "object.__class__") "__get__" = some (some (.builtin "getset_descriptor.__get__"))) (ht : PySem.W.takesIn K (.builtin "object.__class__") = some true) (hm : PySem.W.mroIn K C (.type "object") = some true) : ExK K C fI fields :=
  ⟨⟨⟨nm, q, N, bs, bm, sn, sub, ab, col, dd, k0, k1, k2, k3, k5, cls, ref⟩, sa, exC, tyC, kC⟩, sup, subV, mro, iC, tI, no, ⟨ga, gg, exC, hd⟩, ⟨ga, gg, exC, hd, hcl, hn, ht, hm⟩⟩

/-! ### an own exception's __init__, by what it keeps -/
def spE (C : Addr) (ok : List V → Prop) (fs : List V → List (Str × V)) : Sp := fun vs H Q _ => ∃ (a : Addr) (ws : List V), vs = .ref a :: ws ∧ ok ws ∧ H a = some (exo a C none) ∧
  ∀ (dx : Addr) (H' : Hp), H dx = none → dx ≠ a → H' a = some (exo a C (some dx)) → H' dx = some (exd dx (fs ws)) → (∀ b, b ≠ a → b ≠ dx → H' b = H b) → Q .non H'
theorem mk_spE {C : Addr} {ok : List V → Prop} {fs : List V → List (Str × V)} {vs : List V} {H1 : Hp} {Q : XK} (hl : vs.length ≤ 1000) (ho : ok vs) (hq : ∀ d, H1 d = none → Q (.ref C) (some d) (upd H1 d (.xd (fs vs)))) :
    vs.length ≤ 1000 ∧ ∀ a, H1 a = none → spE C ok fs (.ref a :: (vs ++ [])) (upd H1 a (exo a C none))
      (fun v H2 => v = .non ∧ ∃ (d : Addr) (fs : List (Str × V)), H2 a = some (exo a C (some d)) ∧ H2 d = some (exd d fs) ∧ H1 d = none ∧ Q (.ref C) (some d) (upd (del H2 a) d (.xd fs))) (fun _ _ _ => False) := by
  refine ⟨hl, fun a na => ⟨a, vs, by rw [List.append_nil], ho, upd_same, fun dx H' n ne e1 e2 hh => ⟨rfl, dx, fs vs, e1, e2, ?_, ?_⟩⟩⟩
  · rw [upd_ne ne] at n
    exact n
  · have nd : H1 dx = none := by rw [upd_ne ne] at n; exact n
    have e : upd (del H' a) dx (.xd (fs vs)) = upd H1 dx (.xd (fs vs)) := by
      funext b
      by_cases hb : b = dx
      · rw [hb, upd_same, upd_same]
      · rw [upd_ne hb, upd_ne hb]
        by_cases ha : b = a
        · rw [ha, del_same, na]
        · rw [del_ne ha, hh b ha hb, upd_ne ha]
    rw [e]
    exact hq dx nd
/-- the class, its __init__, ready for a raise -/
structure CalE (P : Program) (w : World) (K : PySem.W.Frag) (mg : Str → Option Value) (base : Heap) (k : Nat) (x : Str) (C f : Addr) (fd : FuncData) (ps : List Str) (ok : List V → Prop) (fs : List V → List (Str × V)) (fields : List Str) : Prop where
  G : FnOk P w K mg base CX0 k f fd ps (spE C ok fs)
  b : Binds K fd ps []
  X : ExK K C f fields
  m : mg x = some (.ref C)
/-- one store, the dict being new -/
theorem ost1 {a C : Addr} {H : Hp} {f : Str} {y : V} {Q : Hp → Prop} (ea : H a = some (exo a C none)) (q : ∀ dx H', H dx = none → dx ≠ a → H' a = some (exo a C (some dx)) → H' dx = some (exd dx [(f, y)]) → (∀ b, b ≠ a → b ≠ dx → H' b = H b) → Q H') :
    ∀ dx, H dx = none → dx ≠ a → Q (upd (upd H dx (exd dx [(f, y)])) a (exo a C (some dx))) := fun dx n ne =>
  q dx _ n ne upd_same (by rw [upd_ne ne, upd_same]) fun b h1 h2 => by rw [upd_ne h1, upd_ne h2]
end El

set_option Elab.async false
set_option linter.all false
set_option maxRecDepth 100000
/-! Own words: a text times an int, the text of an int. -/
namespace El
open PySem PySem.Spec PyProof.Rows L2
def repS (z : Str) (k : Int) : Str := if k < 1 then Str.empty else if (k == 1 || z.length == 0) = true then z else ⟨(List.replicate k.toNat z.cps).foldl (· ++ ·) #[]⟩
theorem foldl_cps : ∀ (n : Nat) (a b : Array Nat), ((List.replicate n b).foldl (· ++ ·) a).toList = a.toList ++ (List.replicate n b.toList).flatten
  | 0, a, b => by simp
  | n + 1, a, b => by
    rw [List.replicate_succ, List.foldl_cons, foldl_cps n, Array.toList_append, List.replicate_succ, List.flatten_cons, List.append_assoc]
theorem repS_cps (z : Str) (k : Int) : (repS z k).cps.toList = (List.replicate k.toNat z.cps.toList).flatten := by
  unfold repS
  split
  · rename_i h
    rw [show k.toNat = 0 by omega]
    rfl
  · split
    · rename_i h1 h
      rw [Bool.or_eq_true, beq_iff_eq, beq_iff_eq] at h
      rcases h with h | h
      · subst h
        simp
      · have : z.cps.toList = [] := List.eq_nil_of_length_eq_zero (by rw [Array.length_toList]; exact h)
        rw [this]
        simp
    · rw [foldl_cps]
      rfl
theorem repS1 {c : Nat} {k : Int} : (repS ⟨#[c]⟩ k).cps.toList = List.replicate k.toNat c := by
  rw [repS_cps]
  simp
theorem op_mulS {X : Cx} : OpR X (binaryOp .Mult) (fun x y H Q => ∃ (z : Str) (k : Int), x = .str z ∧ y = .int k ∧ k ≤ 1000 ∧ -1000 ≤ k ∧ z.length ≤ 1000 ∧ Q (.str (repS z k)) H) := by
  intro pins s σ H x y v u Q I rx ry h
  obtain ⟨z, k, rfl, rfl, h1, h2, h3, q⟩ := h
  obtain ⟨t, rfl⟩ := rx
  obtain ⟨t', rfl⟩ := ry
  have e : (2 : Int) ^ 63 = 9223372036854775808 := by decide
  refine PySem.P.mul_str ?_ (fun n1 n2 => ?_) (fun n1 n2 => ?_) ?_
  · rw [e, decide_eq_false (by omega), decide_eq_false (by omega)]
    rfl
  · rw [e]
    have : ((9223372036854775808 : Int) - 1) / 1000 ≤ (9223372036854775808 - 1) / k := by
      refine Int.le_ediv_of_mul_le (by omega) ?_
      have : (9223372036854775808 - 1) / 1000 * k ≤ (9223372036854775808 - 1) / 1000 * 1000 := Int.mul_le_mul_of_nonneg_left h1 (by decide)
      refine Int.le_trans this (by decide)
    have : (1000 : Int) ≤ (9223372036854775808 - 1) / 1000 := by decide
    omega
  · have : z.length * k.toNat ≤ 1000 * 1000 := Nat.mul_le_mul h3 (by omega)
    show decide _ = false
    refine decide_eq_false ?_
    rw [sizeLine_eq]
    omega
  · unfold repS at q
    split
    · rename_i c
      rw [if_pos c] at q
      exact ⟨by decide, .str _, H, I.tok _, ⟨_, rfl⟩, q⟩
    · rename_i c
      rw [if_neg c] at q
      split
      · rename_i c2
        rw [if_pos c2] at q
        exact ⟨.str _, H, I, ⟨_, rfl⟩, q⟩
      · rename_i c2
        rw [if_neg c2] at q
        refine ⟨?_, .str _, H, I.tok _, ⟨_, rfl⟩, q⟩
        have e2 := foldl_cps k.toNat #[] z.cps
        have e3 : ((List.replicate k.toNat z.cps).foldl (· ++ ·) #[]).size = k.toNat * z.length := by
          rw [← Array.length_toList, e2, List.length_append]
          simp
          rfl
        show ((List.replicate k.toNat z.cps).foldl (· ++ ·) #[]).size ≤ sizeLine
        rw [e3, sizeLine_eq]
        have : k.toNat * z.length ≤ 1000 * 1000 := Nat.mul_le_mul (by omega) h3
        omega
/-- times, of texts too -/
def mulSM : R2 := fun x y H Q => match x, y with
  | .str z, .int k => k ≤ 1000 ∧ -1000 ≤ k ∧ z.length ≤ 1000 ∧ Q (.str (repS z k)) H
  | _, _ => mulM x y H Q
theorem op_mulSM {X : Cx} : OpR X (binaryOp .Mult) mulSM := opwk (OpR.or op_mulS op_mulM) fun x y H Q q => by
  unfold mulSM at q
  split at q
  · exact .inl ⟨_, _, rfl, rfl, q⟩
  · exact .inr q
/-- the signs of a number's text -/
theorem int_digits {i : Int} (h : 0 ≤ i) : ∀ c ∈ ((toString i : String) : Str).cps.toList, 48 ≤ c ∧ c ≤ 57 := by
  intro c hm
  by_cases hk : c ≠ 45 ∧ (c < 48 ∨ 57 < c)
  · exact absurd hm (int_text_free' c hk i)
  · by_cases h45 : c = 45
    · exfalso
      subst h45
      obtain ⟨n, rfl⟩ := Int.eq_ofNat_of_zero_le h
      rw [signs_ofString] at hm
      obtain ⟨ch, hc, e⟩ := List.mem_map.mp hm
      have hd : ch.isDigit = true := by
        have : ch ∈ (Nat.repr n).toList := hc
        exact Nat.isDigit_of_mem_toDigits (b := 10) (n := n) (by decide) (by decide) (by simpa [Nat.repr] using this)
      have := digit_range hd
      omega
    · omega
theorem int_text_ne (i : Int) : ((toString i : String) : Str).cps.toList ≠ [] := by
  rw [signs_ofString]
  intro h
  have h := List.map_eq_nil_iff.mp h
  have nn : ∀ n : Nat, (Nat.repr n).toList ≠ [] := fun n e => by
    have : Nat.toDigits 10 n = [] := by simpa [Nat.repr] using e
    exact Nat.toDigits_ne_nil this
  cases i with
  | ofNat n => exact nn n h
  | negSucc n =>
    have : ("-" ++ Nat.repr (n + 1)).toList = [] := h
    simp at this
end El

set_option Elab.async false
set_option linter.all false
set_option maxRecDepth 100000
set_option maxHeartbeats 4000000
/-! Own words: operators of own classes, static methods. -/
namespace El
open PySem PySem.Spec PyProof.Rows L2
theorem cmpBack_of {X : Cx} {pins : List (Addr × Obj)} {σ : L2.St} {Q : VK} {u : Value} {s' : Shared} (h : EP X pins σ Q u s') : PySem.W.CmpBack (EP X pins σ Q) u s' := by
  obtain ⟨v, H', I, r, q⟩ := id h
  cases v with
  | non => cases (show u = Value.none from r); exact h
  | bl b => cases (show u = Value.bool b from r); exact h
  | int i => obtain ⟨t, e⟩ := (show ∃ t, u = Value.int i t from r); subst e; exact h
  | str i => obtain ⟨t, e⟩ := (show ∃ t, u = Value.str i t from r); subst e; exact h
  | byt i => obtain ⟨t, e⟩ := (show ∃ t, u = Value.bytes i t from r); subst e; exact h
  | flt i => obtain ⟨t, e⟩ := (show ∃ t, u = Value.float i t from r); subst e; exact h
  | ref a => cases (show u = Value.ref a from r); exact h
  | ty n => cases (show u = Value.type n from r); exact h
/-- an own class's method for an operator -/
structure OpC (K : PySem.W.Frag) (C f : Addr) (op : Operator) : Prop where
  sf : PySem.W.selfFirst K C = true
  at_ : PySem.W.findIn K (.ref C) (PySem.dunder op.info.2) = some (some (.ref f))
  fn : PySem.W.isFn K (.ref f) = true
/-- .. with a value of the built-in type T on the right -/
structure OpT (K : PySem.W.Frag) (C f : Addr) (op : Operator) (T : String) : Prop where
  c : OpC K C f op
  hr : ∃ rc, PySem.W.findIn K (.ref C) (PySem.dunderR op.info.2) = some rc ∧ (rc = none ∨ ∃ g : Addr, rc = some (.ref g))
  h1 : ∃ fo, PySem.W.findIn K (.type T) (PySem.dunder op.info.2) = some fo
  h2 : ∃ ro, PySem.W.findIn K (.type T) (PySem.dunderR op.info.2) = some ro
  sub : PySem.W.subIn K (.type T) (.ref C) = some false
structure InvC (K : PySem.W.Frag) (C f : Addr) : Prop where
  at_ : PySem.W.findIn K (.ref C) "__invert__" = some (some (.ref f))
  fn : PySem.W.isFn K (.ref f) = true
section
variable {X : Cx} {CX : CXT} {k : Nat} {C f : Addr} {fd : FuncData} {ps : List Str} {sp : Sp} {E : XK} {op : Operator}
/-- a op b, both of the class at C -/
def rOwn (C : Addr) (sp : Sp) (E : XK) : R2 := fun x y H Q => ∃ a b dx fs dy gs, x = .ref a ∧ y = .ref b ∧ H a = some (.ins C dx fs) ∧ H b = some (.ins C dy gs) ∧ sp [.ref a, .ref b] H Q E
theorem op_own (c : OpC X.K C f op) (F : FnOk X.prog X.w X.K X.mg X.base CX k f fd ps sp) (hr : Room k X.A) (hb : Binds X.K fd ps []) (hx : Passes CX X E) : OpR X (binaryOp op) (rOwn C sp E) := by
  intro pins s σ H x y v u Q I rx ry h
  obtain ⟨a, b, dx, fs, dy, gs, rfl, rfl, ea, eb, q⟩ := h
  obtain rfl : v = Value.ref a := rx
  obtain rfl : u = Value.ref b := ry
  obtain ⟨m, fr⟩ := I.fr
  obtain ⟨mA, O, _⟩ := ins_get I.hok ea
  obtain ⟨od, J, _⟩ := O.look
  obtain ⟨mB, O2, _⟩ := ins_get I.hok eb
  obtain ⟨od2, J2, _⟩ := O2.look
  refine PySem.W.binop_K fr I.ok.mod.kin J J2.type c.sf c.at_ c.fn ?_
  refine wpAny_mono (run_fn (us := [.ref a, .ref b]) (vs := [.ref a, .ref b]) (ds := []) (dvs := []) F hr hb .nil hx I (.cons rfl (.cons rfl .nil)) q) (fun u' s' h' => cmpBack_of h') fun _ _ z => z
/-- a op n, n an int -/
def rOwnI (C : Addr) (sp : Sp) (E : XK) : R2 := fun x y H Q => ∃ a dx fs i, x = .ref a ∧ y = .int i ∧ H a = some (.ins C dx fs) ∧ sp [.ref a, .int i] H Q E
theorem op_ownI (c : OpT X.K C f op "int") (F : FnOk X.prog X.w X.K X.mg X.base CX k f fd ps sp) (hr : Room k X.A) (hb : Binds X.K fd ps []) (hx : Passes CX X E) : OpR X (binaryOp op) (rOwnI C sp E) := by
  intro pins s σ H x y v u Q I rx ry h
  obtain ⟨a, dx, fs, i, rfl, rfl, ea, q⟩ := h
  obtain rfl : v = Value.ref a := rx
  obtain ⟨t, rfl⟩ := ry
  obtain ⟨m, fr⟩ := I.fr
  obtain ⟨mA, O, _⟩ := ins_get I.hok ea
  obtain ⟨od, J, _⟩ := O.look
  obtain ⟨rc, hr1, hr2⟩ := c.hr
  obtain ⟨fo, h1⟩ := c.h1
  obtain ⟨ro, h2⟩ := c.h2
  refine PySem.W.ksp_binT fr I.ok.mod.kin J (T := "int") rfl c.c.sf c.c.at_ c.c.fn hr1 hr2 h1 h2 c.sub ?_
  refine wpAny_mono (run_fn (us := [.ref a, .int i t]) (vs := [.ref a, .int i]) (ds := []) (dvs := []) F hr hb .nil hx I (.cons rfl (.cons ⟨t, rfl⟩ .nil)) q) (fun u' s' h' => cmpBack_of h') fun _ _ z => z
/-- ~a -/
theorem un_own (c : InvC X.K C f) (F : FnOk X.prog X.w X.K X.mg X.base CX k f fd ps sp) (hr : Room k X.A) (hb : Binds X.K fd ps []) (hx : Passes CX X E) : UnR X (unaryOp .Invert) (fun x H Q => ∃ a dx fs, x = .ref a ∧ H a = some (.ins C dx fs) ∧ sp [.ref a] H Q E) := by
  intro pins s σ H x v Q I rx h
  obtain ⟨a, dx, fs, rfl, ea, q⟩ := h
  obtain rfl : v = Value.ref a := rx
  obtain ⟨m, fr⟩ := I.fr
  obtain ⟨mA, O, _⟩ := ins_get I.hok ea
  obtain ⟨od, J, _⟩ := O.look
  exact PySem.W.ksp_inv fr I.ok.mod.kin J c.at_ c.fn (run_fn (us := [.ref a]) (vs := [.ref a]) (ds := []) (dvs := []) F hr hb .nil hx I (.cons rfl .nil) q)
end

section
variable {X : Cx} {CX : CXT} {k : Nat} {C f : Addr} {fd : FuncData} {ps : List Str} {sp : Sp} {E : L2.St → XK} {op : Operator} {a b : Expr} {ta tb : TE} {pos : Pos}
/-- .. what it lets out being taken where it stands -/
def tOwnS (C : Addr) (sp : Sp) (E : L2.St → XK) (ta tb : TE) : TE := fun σ H Q => ta σ H fun x H1 => tb σ H1 fun y H2 => ∃ a b dx fs dy gs, x = .ref a ∧ y = .ref b ∧ H2 a = some (.ins C dx fs) ∧ H2 b = some (.ins C dy gs) ∧ sp [.ref a, .ref b] H2 Q (E σ)
theorem pe_bopS (c : OpC X.K C f op) (F : FnOk X.prog X.w X.K X.mg X.base CX k f fd ps sp) (hr : Room k X.A) (hb : Binds X.K fd ps []) (hx : ∀ σ, PassesAt CX X σ (E σ)) (ha : PE X a ta) (hb2 : PE X b tb) : PE X (.BinOp a op b pos) (tOwnS C sp E ta tb) := by
  refine ⟨fun pins s σ H Q I h => ?_⟩
  refine wpAny_BinOp (thn (ha.run pins s σ H _ I h) fun v s1 ⟨x, H1, I1, rx, q1⟩ => thn (hb2.run pins s1 σ H1 _ I1 q1) fun u s2 ⟨y, H2, I2, ry, a, b, dx, fs, dy, gs, ex, ey, ea, eb, q⟩ => ?_)
  subst ex ey
  obtain rfl : v = Value.ref a := rx
  obtain rfl : u = Value.ref b := ry
  obtain ⟨m, fr⟩ := I2.fr
  obtain ⟨mA, O, _⟩ := ins_get I2.hok ea
  obtain ⟨od, J, _⟩ := O.look
  obtain ⟨mB, O2, _⟩ := ins_get I2.hok eb
  obtain ⟨od2, J2, _⟩ := O2.look
  refine PySem.W.binop_K fr I2.ok.mod.kin J J2.type c.sf c.at_ c.fn ?_
  refine wpAny_mono (run_fnS (us := [.ref a, .ref b]) (vs := [.ref a, .ref b]) F hr hb (hx σ) I2 (.cons rfl (.cons rfl .nil)) q) (fun u' s' h' => cmpBack_of h') fun _ _ z => z
end

/-! ### static methods, by the class's name -/
structure SMet (K : PySem.W.Frag) (C : Addr) (mc : Value) (m : Str) (p g : Addr) : Prop where
  at_ : PySem.W.findCls K (.ref C) mc m = some (.get (.builtin "staticmethod.__get__") (.ref p) .none (.ref C))
  rc : ∃ rest, PySem.W.recIn K p "staticmethod" = some (.ref g :: rest)
  kp : PySem.W.keepIn K (.ref g) = true
section
variable {X : Cx} {CX : CXT} {k : Nat} {C p g : Addr} {mc : Value} {fd : FuncData} {ps : List Str} {sp : Sp} {E : XK} {o e : Expr} {es : List Expr} {m : Str} {pos apos : Pos} {ta : TE} {t : TA} {pl : Sem Bool}
def tSM (C : Addr) (sp : Sp) (E : XK) (ta : TE) (t : TA) : TE := fun σ H Q => ta σ H fun x H1 => x = .ref C ∧ t σ H1 fun vs H2 => sp vs H2 Q E
theorem getsm_ok {pins : List (Addr × Obj)} {σ : L2.St} {H : Hp} {s : Shared} {A : Around} {E : Value → Shared → Prop} {Q : Value × List Value → Shared → Prop} (I : Inv X pins σ H s) (r : ClX.CRead X.K C mc) (c : SMet X.K C mc m p g)
    (h : ∀ s', Inv X pins σ H s' → Q (.ref g, []) s') : wpAny (model X.prog X.w) A (getMethod (.ref C) m pl) Q E s := by
  obtain ⟨rest, hp⟩ := c.rc
  refine PySem.W.method_cls I.kIn r.ga ?_
  refine PySem.W.cls_bind I.kIn r.rd c.at_ ?_
  exact wpAny_call (PySem.W.sm_get (s := { s with toks := s.toks + 1 }) I.kIn hp (PySem.W.handed_on rfl (h _ (I.tok _))))
theorem pe_smeth (he : PE X o ta) (r : ClX.CRead X.K C mc) (c : SMet X.K C mc m p g) (F : FnOk X.prog X.w X.K X.mg X.base CX k g fd ps sp) (hr : Room k X.A) (hb : Binds X.K fd ps []) (hx : Passes CX X E) (ha : PA X (e :: es) t)
    (hst : starEach (e :: es) X.env = (false, eval e X.env) :: starEach es X.env := by rfl) (hpl : (backTo pos (starEach es X.env)).any (·.1) = false := by rfl)
    (ht : eval (.Call (.Attribute o m apos) (e :: es) [] pos) X.env = (do
      let ov ← eval o X.env
      standAt apos.atName
      let (f, first) ← holding [ov] (getMethod ov m pl)
      callWith pos f first (backTo pos (starEach (e :: es) X.env)) (backToKw pos (keywordEach [] X.env))) := by rfl) :
    PE X (.Call (.Attribute o m apos) (e :: es) [] pos) (tSM C sp E ta t) := by
  refine ⟨fun pins s σ H Q I h => ?_⟩
  refine PySem.W.methodCall_KW (pl := pl) (thn (he.run pins s σ H _ I h) fun u s1 ⟨x, H1, I1, rx, ex, q⟩ => ?_) ht
  subst ex
  obtain rfl : u = Value.ref C := rx
  refine getsm_ok I1 r c fun s2 I2 => ?_
  refine PySem.W.callWith_K (h₀ := X.base) I2.ok.mod.kin c.kp (thn (ha.run pos pins s2 σ H1 _ I2 q) fun us s3 ⟨vs, H2, I3, rv, q2⟩ => ⟨I3.kIn, ?_⟩) hst hpl
  have hl : sp (vs ++ []) H2 Q E := by rw [List.append_nil]; exact q2
  exact run_fn (ds := []) (dvs := []) F hr hb .nil hx I3 rv hl
theorem pe_smeth0 (he : PE X o ta) (r : ClX.CRead X.K C mc) (c : SMet X.K C mc m p g) (F : FnOk X.prog X.w X.K X.mg X.base CX k g fd ps sp) (hr : Room k X.A) (hb : Binds X.K fd ps []) (hx : Passes CX X E)
    (ht : eval (.Call (.Attribute o m apos) [] [] pos) X.env = (do
      let ov ← eval o X.env
      standAt apos.atName
      let (f, first) ← holding [ov] (getMethod ov m pl)
      callWith pos f first (backTo pos (starEach [] X.env)) (backToKw pos (keywordEach [] X.env))) := by rfl) :
    PE X (.Call (.Attribute o m apos) [] [] pos) (tSM C sp E ta tNil) := by
  refine ⟨fun pins s σ H Q I h => ?_⟩
  refine PySem.W.methodCall_KW (pl := pl) (thn (he.run pins s σ H _ I h) fun u s1 ⟨x, H1, I1, rx, ex, q⟩ => ?_) ht
  subst ex
  obtain rfl : u = Value.ref C := rx
  refine getsm_ok I1 r c fun s2 I2 => ?_
  exact PySem.W.callWith_K0 I2.kIn c.kp (run_fn (us := []) (vs := []) (ds := []) (dvs := []) F hr hb .nil hx I2 .nil q)
end

/-! ### defs of own classes, ready to be called -/
structure CalB (P : Program) (w : World) (K : PySem.W.Frag) (mg : Str → Option Value) (base : Heap) (CX : CXT) (k : Nat) (f : Addr) (fd : FuncData) (ps : List Str) (sp : Sp) : Prop where
  G : FnOk P w K mg base CX k f fd ps sp
  b : Binds K fd ps []
structure CalI (P : Program) (w : World) (K : PySem.W.Frag) (mg : Str → Option Value) (base : Heap) (CX : CXT) (k : Nat) (x : Str) (C f : Addr) (fd : FuncData) (ps : List Str) (sp : Sp) : Prop extends CalB P w K mg base CX k f fd ps sp where
  mkc : Mk K C f
  m : mg x = some (.ref C)
structure CalS (P : Program) (w : World) (K : PySem.W.Frag) (mg : Str → Option Value) (base : Heap) (CX : CXT) (k : Nat) (C p : Addr) (m : Str) (f : Addr) (fd : FuncData) (ps : List Str) (sp : Sp) : Prop extends CalB P w K mg base CX k f fd ps sp where
  rd : ClX.CRead K C (.type "type")
  sm : SMet K C (.type "type") m p f
structure CalP (P : Program) (w : World) (K : PySem.W.Frag) (mg : Str → Option Value) (base : Heap) (CX : CXT) (k : Nat) (C p : Addr) (m : Str) (f : Addr) (fd : FuncData) (ps : List Str) (sp : Sp) : Prop extends CalB P w K mg base CX k f fd ps sp where
  cl : Cls K C
  pr : PropOf K C m p f
structure CalO (P : Program) (w : World) (K : PySem.W.Frag) (mg : Str → Option Value) (base : Heap) (CX : CXT) (k : Nat) (C : Addr) (op : Operator) (f : Addr) (fd : FuncData) (ps : List Str) (sp : Sp) : Prop extends CalB P w K mg base CX k f fd ps sp where
  op : OpC K C f op
structure CalC (P : Program) (w : World) (K : PySem.W.Frag) (mg : Str → Option Value) (base : Heap) (CX : CXT) (k : Nat) (C f : Addr) (fd : FuncData) (ps : List Str) (sp : Sp) : Prop extends CalB P w K mg base CX k f fd ps sp where
  co : StX.CallO K C f

/-! ### the written part named (in comprehensions) -/
section
variable {X : Cx} {e : Expr} {es : List Expr} {f : Str} {pos p : Pos} {ta : TE} {t : TA}
theorem e_f (K : PySem.W.Frag) (he : PE X e ta) (hb : attributeBase e f X.env (eval e X.env) = eval e X.env := by rfl) (h : X.K = K := by rfl) : PE X (.Attribute e f pos) (tFld K ta f) := h ▸ pe_fld he hb
theorem e_cv (K : PySem.W.Frag) (he : PE X e ta) (hb : attributeBase e f X.env (eval e X.env) = eval e X.env := by rfl) (h : X.K = K := by rfl) : PE X (.Attribute e f pos) (ClX.tCVal K ta f) := h ▸ ClX.pe_cval he hb
end

/-! ### len of an own class -/
structure LenC (K : PySem.W.Frag) (C f : Addr) : Prop where
  at_ : PySem.W.findIn K (.ref C) "__len__" = some (some (.ref f))
  fn : PySem.W.isFn K (.ref f) = true
theorem call_lenO {X : Cx} {k : Nat} {C f : Addr} {fd : FuncData} {ps : List Str} {sp : Sp} (c : LenC X.K C f) (F : FnOk X.prog X.w X.K X.mg X.base CX0 k f fd ps sp) (hr : Room (k + 1) X.A) (hb : Binds X.K fd ps []) :
    CallR X (.builtin "len") (fun xs H Q => ∃ a dx fs, xs = [.ref a] ∧ H a = some (.ins C dx fs) ∧ sp [.ref a] H (fun v H' => ∃ n : Int, v = .int n ∧ 0 ≤ n ∧ n < 2 ^ 62 ∧ Q (.int n) H') E0) := by
  intro pins s σ H xs us Q I r h
  obtain ⟨a, dx, fs, rfl, ea, q⟩ := h
  obtain rfl := Vals.ref1 r
  obtain ⟨m, fr⟩ := I.fr
  obtain ⟨mA, O, _⟩ := ins_get I.hok ea
  obtain ⟨od, J, _⟩ := O.look
  refine PySem.W.len_K fr I.ok.mod.kin J c.at_ c.fn ?_
  have hl : ([Value.ref a] ++ []).length = ps.length := (F.len _ _ _ _ q)
  have b := hb s [.ref a] I.kIn hl
  rw [List.append_nil] at b
  refine wpAny_call (codeAny_mono (F.run X.A.in1 X.stack s H ⟨[.ref a], []⟩ [.ref a] [.ref a] _ E0 hr.in1 I.env0.in1 b (.cons rfl .nil) q) fun r s' hq' => ?_)
  cases r with
  | error e => exact False.elim hq'
  | ok fl =>
    cases fl with
    | ret u =>
      obtain ⟨v, H', I3, rv, n, rfl, h0, h1, q3⟩ := I.after hq'
      obtain ⟨t, rfl⟩ := rv
      exact ⟨⟨h0, Int.lt_trans h1 (by decide)⟩, ⟨.int n, H', I3.tok _, ⟨_, rfl⟩, q3⟩⟩
    | next => exact False.elim hq'
    | brk => exact False.elim hq'
    | cont => exact False.elim hq'
structure CalL (P : Program) (w : World) (K : PySem.W.Frag) (mg : Str → Option Value) (base : Heap) (CX : CXT) (k : Nat) (C f : Addr) (fd : FuncData) (ps : List Str) (sp : Sp) : Prop extends CalB P w K mg base CX k f fd ps sp where
  le : LenC K C f
end El

set_option Elab.async false
set_option linter.all false
set_option maxRecDepth 100000
set_option maxHeartbeats 4000000
/-! Own words: static methods and callable objects inside a try; exception classes that inherit their __init__. -/
namespace El
open PySem PySem.Spec PyProof.Rows L2
section
variable {X : Cx} {CX : CXT} {k : Nat} {C p g f : Addr} {mc : Value} {fd : FuncData} {ps : List Str} {sp : Sp} {E : L2.St → XK} {o e fe : Expr} {es : List Expr} {m : Str} {pos apos : Pos} {ta tf : TE} {t : TA} {pl : Sem Bool}
theorem code_fnS {pins : List (Addr × Obj)} {σ : L2.St} {H : Hp} {s : Shared} {Q : VK} {us : List Value} {vs : List V} (F : FnOk X.prog X.w X.K X.mg X.base CX k f fd ps sp) (hr : Room k X.A) (hb : Binds X.K fd ps []) (hx : PassesAt CX X σ (E σ))
    (I : Inv X pins σ H s) (r : Vals vs us) (h : sp vs H Q (E σ)) : codeAny (model X.prog X.w) X.A (.call (.ref f) ⟨us, []⟩) (fun r s' => match r with | .ok (.ret u) => EP X pins σ Q u s' | .error e => X.xe e s' | _ => False) s := by
  have hl : us.length = ps.length := by rw [← r.length]; exact F.len _ _ _ _ h
  have b := hb s us I.kIn (by rw [List.append_nil]; exact hl)
  rw [List.append_nil] at b
  refine codeAny_mono (F.run X.A X.stack s H ⟨us, []⟩ us vs Q (E σ) hr I.env0 b r h) fun r s' hq => ?_
  cases r with
  | error e => exact hx pins H s e s' I hq
  | ok fl =>
    cases fl with
    | ret u => exact I.after hq
    | next => exact False.elim hq
    | brk => exact False.elim hq
    | cont => exact False.elim hq
/-- C.m(e, ..), what it lets out being taken where it stands -/
def tSMS (C : Addr) (sp : Sp) (E : L2.St → XK) (ta : TE) (t : TA) : TE := fun σ H Q => ta σ H fun x H1 => x = .ref C ∧ t σ H1 fun vs H2 => sp vs H2 Q (E σ)
theorem pe_smethS (he : PE X o ta) (r : ClX.CRead X.K C mc) (c : SMet X.K C mc m p g) (F : FnOk X.prog X.w X.K X.mg X.base CX k g fd ps sp) (hr : Room k X.A) (hb : Binds X.K fd ps []) (hx : ∀ σ, PassesAt CX X σ (E σ)) (ha : PA X (e :: es) t)
    (hst : starEach (e :: es) X.env = (false, eval e X.env) :: starEach es X.env := by rfl) (hpl : (backTo pos (starEach es X.env)).any (·.1) = false := by rfl)
    (ht : eval (.Call (.Attribute o m apos) (e :: es) [] pos) X.env = (do
      let ov ← eval o X.env
      standAt apos.atName
      let (f, first) ← holding [ov] (getMethod ov m pl)
      callWith pos f first (backTo pos (starEach (e :: es) X.env)) (backToKw pos (keywordEach [] X.env))) := by rfl) :
    PE X (.Call (.Attribute o m apos) (e :: es) [] pos) (tSMS C sp E ta t) := by
  refine ⟨fun pins s σ H Q I h => ?_⟩
  refine PySem.W.methodCall_KW (pl := pl) (thn (he.run pins s σ H _ I h) fun u s1 ⟨x, H1, I1, rx, ex, q⟩ => ?_) ht
  subst ex
  obtain rfl : u = Value.ref C := rx
  refine getsm_ok I1 r c fun s2 I2 => ?_
  refine PySem.W.callWith_K (h₀ := X.base) I2.ok.mod.kin c.kp (thn (ha.run pos pins s2 σ H1 _ I2 q) fun us s3 ⟨vs, H2, I3, rv, q2⟩ => ⟨I3.kIn, ?_⟩) hst hpl
  exact run_fnS F hr hb (hx σ) I3 rv q2
/-- f(e, ..), f an instance of C, what it lets out being taken where it stands -/
def tCallOS (C : Addr) (sp : Sp) (E : L2.St → XK) (tf : TE) (t : TA) : TE := fun σ H Q => tf σ H fun y H1 => ∃ a, y = V.ref a ∧ t σ H1 fun vs H2 => (∃ dx fs, H2 a = some (.ins C dx fs)) ∧ sp (V.ref a :: vs) H2 Q (E σ)
theorem pe_callOS (hf : PE X fe tf) (c : StX.CallO X.K C g) (F : FnOk X.prog X.w X.K X.mg X.base CX k g fd ps sp) (hb : Binds X.K fd ps []) (hr : Room k X.A) (hx : ∀ σ, PassesAt CX X σ (E σ)) (ha : PA X (e :: es) t)
    (ht : eval (.Call fe (e :: es) [] pos) X.env = (do callWith pos (← eval fe X.env) [] (backTo pos (starEach (e :: es) X.env)) (backToKw pos (keywordEach [] X.env))) := by rfl)
    (he : starEach (e :: es) X.env = (false, eval e X.env) :: starEach es X.env := by rfl) (hpl : (backTo pos (starEach es X.env)).any (·.1) = false := by rfl) : PE X (.Call fe (e :: es) [] pos) (tCallOS C sp E tf t) := by
  refine ⟨fun pins s σ H Q I h => ?_⟩
  refine Call_ (thn (hf.run pins s σ H _ I h) fun u s1 ⟨y, H1, I1, ry, a, ey, q⟩ => ?_) ht
  subst ey
  obtain rfl : u = Value.ref a := ry
  refine StX.callO_with (thn (ha.run pos pins s1 σ H1 _ I1 q) fun us s2 ⟨vs, H2, I2, r, hi, q2⟩ => ?_) he hpl
  obtain ⟨ox, od, J, hd⟩ := StX.insC_at I2 (.inr hi)
  refine ⟨⟨C, ox, od, J, hd⟩, ?_⟩
  refine wpAny_call (PySem.W.kco_code I2.kIn J hd c.at_ c.fn c.fi (codeAny_mono (code_fnS (us := .ref a :: us) (vs := .ref a :: vs) F hr hb (hx σ) I2 (.cons rfl r) q2) fun r s' h => ?_))
  cases r with
  | error e => exact h
  | ok fl =>
    cases fl with
    | ret u => exact h
    | next => exact False.elim h
    | brk => exact False.elim h
    | cont => exact False.elim h
end

/-! ### an exception class C whose __init__ is that of D above it -/
open NdefX
structure ExI (K : PySem.W.Frag) (C D fI : Addr) (fields : List Str) : Prop where
  oex : OexC K C
  sup : PySem.W.ks_superIn K C D "__init__" = some (some (.builtin "ValueError.__init__"))
  subV : PySem.W.subIn K (.ref C) (.type "ValueError") = some true
  mro : PySem.W.mroIn K C (.ref D) = some true
  iC : PySem.W.findIn K (.ref C) "__init__" = some (some (.ref fI))
  tI : PySem.W.typeIn K (.ref fI) = some (.type "function")
  no : ∀ f ∈ fields, PySem.W.findIn K (.ref C) f = some none
  xf : XfC K C
  is : ExcC K C
theorem exi_mk {K : PySem.W.Frag} {C D fI N : Addr} {fields : List Str} {nm q : Str} {bs bm : List Value} {sn : List Str} {sub : List Value} {ab : Bool} {col : Option Bool} {dd : Option Addr} {k0 k1 k2 k3 k5 : Option Value}
    (cls : K.lookup C = some (excClassObj nm q C N bs bm true sn sub ab col dd k0 k1 k2 k3 k5 "ValueError.__new__")) (ref : PySem.HandSPX.refsVE bm = true)
    (sa : PySem.W.findIn K (.ref C) "__setattr__" = some (some (.builtin "object.__setattr__"))) (exC : PySem.W.subIn K (.ref C) (.type "BaseException") = some true) (tyC : PySem.W.typeIn K (.ref C) = some (.type "type")) (kC : PySem.W.keepIn K (.ref C) = true)
    (sup : PySem.W.ks_superIn K C D "__init__" = some (some (.builtin "ValueError.__init__"))) (subV : PySem.W.subIn K (.ref C) (.type "ValueError") = some true) (mro : PySem.W.mroIn K C (.ref D) = some true)
    (iC : PySem.W.findIn K (.ref C) "__init__" = some (some (.ref fI))) (tI : PySem.W.typeIn K (.ref fI) = some (.type "function")) (no : ∀ f ∈ fields, PySem.W.findIn K (.ref C) f = some none)
    (ga : PySem.W.findIn K (.ref C) "__getattribute__" = some (some (.builtin "BaseException.__getattribute__"))) (gg : PySem.W.findIn K (.ref C) "__getattr__" = some none) (hd : PySem.W.hasDictIn K C = true)
    (hcl : PySem.W.findIn K (.ref C) "__class__" = some (some (.builtin "object.__class__"))) (hn : PySem.W.specialIn K (.builtin "object.__class__") "__get__" = some (some (.builtin "getset_descriptor.__get__"))) (ht : PySem.W.takesIn K (.builtin "object.__class__") = some true) (hm : PySem.W.mroIn K C (.type "object") = some true) : ExI K C D fI fields :=
  ⟨⟨⟨nm, q, N, bs, bm, sn, sub, ab, col, dd, k0, k1, k2, k3, k5, cls, ref⟩, sa, exC, tyC, kC⟩, sup, subV, mro, iC, tI, no, ⟨ga, gg, exC, hd⟩, ⟨ga, gg, exC, hd, hcl, hn, ht, hm⟩⟩
structure CalEI (P : Program) (w : World) (K : PySem.W.Frag) (mg : Str → Option Value) (base : Heap) (k : Nat) (x : Str) (C f : Addr) (fd : FuncData) (ps : List Str) (ok : List V → Prop) (fs : List V → List (Str × V)) (fields : List Str) : Prop where
  G : FnOk P w K mg base CX0 k f fd ps (spE C ok fs)
  b : Binds K fd ps []
  X : ∃ D, ExI K C D f fields
  m : mg x = some (.ref C)
theorem CalEI.oex {P : Program} {w : World} {K : PySem.W.Frag} {mg : Str → Option Value} {base : Heap} {k : Nat} {x : Str} {C f : Addr} {fd : FuncData} {ps : List Str} {ok : List V → Prop} {fs : List V → List (Str × V)} {fields : List Str} (c : CalEI P w K mg base k x C f fd ps ok fs fields) : OexC K C := by obtain ⟨D, X⟩ := c.X; exact X.oex
theorem CalEI.iC {P : Program} {w : World} {K : PySem.W.Frag} {mg : Str → Option Value} {base : Heap} {k : Nat} {x : Str} {C f : Addr} {fd : FuncData} {ps : List Str} {ok : List V → Prop} {fs : List V → List (Str × V)} {fields : List Str} (c : CalEI P w K mg base k x C f fd ps ok fs fields) : PySem.W.findIn K (.ref C) "__init__" = some (some (.ref f)) := by obtain ⟨D, X⟩ := c.X; exact X.iC
theorem CalEI.tI {P : Program} {w : World} {K : PySem.W.Frag} {mg : Str → Option Value} {base : Heap} {k : Nat} {x : Str} {C f : Addr} {fd : FuncData} {ps : List Str} {ok : List V → Prop} {fs : List V → List (Str × V)} {fields : List Str} (c : CalEI P w K mg base k x C f fd ps ok fs fields) : PySem.W.typeIn K (.ref f) = some (.type "function") := by obtain ⟨D, X⟩ := c.X; exact X.tI
/-! ### characters whose repr is bounded -/
def Asc (z : Str) : Prop := ∀ c ∈ z.cps.toList, c < 16 ^ 8
theorem repr_le {z : Str} (h : Asc z) (hl : z.length ≤ 1000) : (reprText z).length ≤ 10002 := Nat.le_trans (PySem.StrLaws.reprText_len z h) (by omega)
end El

set_option Elab.async false
set_option linter.all false
set_option maxRecDepth 100000
set_option maxHeartbeats 4000000
/-! Own words: a set comprehension of texts, and such a set sorted. -/
namespace El
open PySem PySem.Spec PyProof.Rows L2

/-- the text of an entry -/
def txE (e : Int × Value) : Str := match e.2 with | .str k _ => k | _ => Str.empty
/-- an entry as a set of texts has it -/
def TxE (P : Program) (w : World) (e : Int × Value) : Prop := ∃ k t, e.2 = Value.str k t ∧ e.1 = (PySem.strKind P w).hash k
/-- a set of texts, walkable: S its members, n their number -/
def TxS (P : Program) (w : World) (h : Heap) (a : Addr) (S : Str → Bool) (n : Nat) : Prop :=
  ∃ o es ep t, h.get? a = some o ∧ o.ExactSet ∧ o.data = .set es ep t ∧ (∀ e ∈ es.toList, TxE P w e) ∧ (es.toList.map txE).Nodup ∧ (∀ k, S k = true ↔ k ∈ es.toList.map txE) ∧
    es.size < scanBound ∧ t.fits es.size = true ∧ es.size = n ∧ Ris t.place.toList ∧ (w.params.followText "set-order" = true ∨ t.led = true)

section
variable {P : Program} {w : World} {h h' : Heap} {a : Addr} {S : Str → Bool} {n : Nat}
theorem TxS.at (R : TxS P w h a S n) (k : ∀ o, h.get? a = some o → h'.get? a = some o) : TxS P w h' a S n := by
  obtain ⟨o, es, ep, t, ho, r⟩ := R
  exact ⟨o, es, ep, t, k o ho, r⟩
theorem tx_is {e : Int × Value} (g : TxE P w e) (k : Str) : (PySem.strKind P w).is k e.2 = true ↔ txE e = k := by
  obtain ⟨k0, t, h1, _⟩ := g
  have e0 : txE e = k0 := by unfold txE; rw [h1]
  rw [e0]
  constructor
  · intro q
    exact (PySem.strKind P w).inj e.2 _ _ (by rw [h1]; exact strKind_is _ _ _ _) q
  · rintro rfl
    rw [h1]
    exact strKind_is _ _ _ _
theorem tx_elems {l : List (Int × Value)} (g : ∀ e ∈ l, TxE P w e) : ElemsOf (PySem.strKind P w) l := fun e he => by
  obtain ⟨k, t, h1, h2⟩ := g e he
  exact ⟨⟨k, by rw [h1]; exact strKind_is _ _ _ _, h2⟩, by rw [h1]; rfl⟩
theorem tx_mem {l : List (Int × Value)} (g : ∀ e ∈ l, TxE P w e) (k : Str) : k ∈ l.map txE ↔ ∃ e ∈ l, (PySem.strKind P w).is k e.2 = true := by
  rw [List.mem_map]
  exact ⟨fun ⟨e, he, q⟩ => ⟨e, he, (tx_is (g e he) k).2 q⟩, fun ⟨e, he, q⟩ => ⟨e, he, (tx_is (g e he) k).1 q⟩⟩
theorem TxS.setOf (R : TxS P w h a S n) : h.SetOf (PySem.strKind P w) a S n := by
  obtain ⟨o, es, ep, t, ho, hx, hd, g, nd, hm, hb, hf, hn, _⟩ := R
  exact ⟨o, es, ep, t, ho, hx, hd, tx_elems g, fun k => (hm k).trans (tx_mem g k), hb, hf, hn⟩
end

section
variable {P : Program} {w : World} {A : Around} {E : Value → Shared → Prop} {s : Shared} {a : Addr} {S : Str → Bool} {n : Nat}
/-- storing the entries, laid anew where the table is too full -/
theorem tx_store {g : Bool → Sem Unit} (hg : ∀ (b : Bool) (s₁ : Shared) (Q' : Unit → Shared → Prop), Q' () s₁ → wpAny (model P w) A (g b) Q' E s₁)
    {o : Obj} {es : Array (Int × Value)} {ep : Nat} {t : SetTable} (ho : s.heap.get? a = some o) (hex : o.ExactSet) (hd : o.data = .set es ep t)
    {es1 : Array (Int × Value)} {t2 : SetTable} {S' : Str → Bool} (g1 : ∀ e ∈ es1.toList, TxE P w e) (nd1 : (es1.toList.map txE).Nodup) (m1 : ∀ k, S' k = true ↔ k ∈ es1.toList.map txE)
    (hb1 : es1.size < scanBound) (hf2 : t2.fits es1.size = true) (hr : Ris t2.place.toList) (hl : w.params.followText "set-order" = true ∨ t2.led = true) {wasDummy : Bool} {R : Option Bool → Shared → Prop}
    (hR : ∀ h', Heap.SameBut a s.heap h' → TxS P w h' a S' es1.size → R (some true) { s with heap := h' }) :
    wpAny (model P w) A (do
        storeSet a es1 t2
        if (!wasDummy && t2.tooFull) = true then do
            g (relayAll t2 es1 (SetTable.grown es1.size)).2.2
            storeSet a (relayAll t2 es1 (SetTable.grown es1.size)).1 (relayAll t2 es1 (SetTable.grown es1.size)).2.1
            pure (some true)
          else pure (some true)) R E s := by
  refine wpAny_bind (wpAny_storeSet_of ho hd ?_ (fits_of_scanBound hb1))
  have ho1 := PpSet.storeB_at (es' := es1) (t' := t2) ho hd
  have sb1 := Heap.SameBut.update s.heap a (Obj.putSet es1 t2)
  split
  · obtain ⟨pm, hf3, hr3, hl3⟩ : (relayAll t2 es1 (SetTable.grown es1.size)).1.toList.Perm es1.toList ∧ (relayAll t2 es1 (SetTable.grown es1.size)).2.1.fits (relayAll t2 es1 (SetTable.grown es1.size)).1.size = true ∧ Ris (relayAll t2 es1 (SetTable.grown es1.size)).2.1.place.toList ∧ (relayAll t2 es1 (SetTable.grown es1.size)).2.1.led = t2.led :=
      ⟨relayAll_perm _ _ _, relayAll_fits _ _ _, relayAll_ris _ _ _, relayAll_led _ _ _⟩
    generalize relayAll t2 es1 (SetTable.grown es1.size) = Z at pm hf3 hr3 hl3 ⊢
    obtain ⟨es2, t3, gave⟩ := Z
    dsimp only at pm hf3 hr3 hl3 ⊢
    have hsz : es2.size = es1.size := by rw [← Array.length_toList, pm.length_eq, Array.length_toList]
    refine wpAny_bind (hg _ _ _ ?_)
    refine wpAny_bind (wpAny_storeSet_of ho1 rfl ?_ (fits_of_scanBound (by rw [hsz]; exact hb1)))
    have ho2 := PpSet.storeB_at (es' := es2) (t' := t3) ho1 rfl
    refine wpAny_pure (hR _ (sb1.trans (Heap.SameBut.update _ a _)) ?_)
    exact ⟨_, es2, _, t3, ho2, hex, rfl, fun e he => g1 e (pm.mem_iff.mp he), (pm.map txE).nodup_iff.mpr nd1, fun k => (m1 k).trans (pm.map txE).mem_iff.symm, by rw [hsz]; exact hb1, hf3, hsz, hr3,
      hl.imp id fun z => by rw [hl3]; exact z⟩
  · exact wpAny_pure (hR _ sb1 ⟨_, es1, _, t2, ho1, hex, rfl, g1, nd1, m1, hb1, hf2, rfl, hr, hl⟩)

theorem tx_add_hashed {k : Str} {u : PySem.Tok} {Q : Bool → Shared → Prop} (R : TxS P w s.heap a S n) (room : n + 1 < scanBound)
    (hQ : ∀ h', Heap.SameBut a s.heap h' → TxS P w h' a (fun j => S j || decide (j = k)) (if S k = true then n else n + 1) → Q (!S k) { s with heap := h' }) :
    wpAny (model P w) A (setAddHashed a (.str k u) ((PySem.strKind P w).hash k)) Q E s := by
  obtain ⟨o, es, ep, t, ho, hex, hd, g, nd, hm, hb, hf, hn, hr, hl⟩ := R
  have hkey : (PySem.strKind P w).is k (.str k u) = true := strKind_is _ _ _ _
  have hsc : (Value.str k u).scannable = true := rfl
  have hel : ElemsOf (PySem.strKind P w) es.toList := tx_elems g
  unfold setAddHashed setAddHashedIn
  refine wpAny_holding (wpAny_bind (wpAny_setState_of ho hd hf ?_))
  dsimp only
  rw [byScan_of hsc hb hel]
  simp only [↓reduceIte]
  unfold setAddByScan
  refine wpAny_bind ?_
  refine wpAny_bind (wpAny_rule ?_)
  refine wpAny_bind (wpAny_setScan_of hkey ho hd hf hel ?_)
  cases hfi : List.findIdx? (fun e => (PySem.strKind P w).is k e.2) es.toList with
  | some j =>
    dsimp only
    obtain ⟨hj, pj, _⟩ := List.findIdx?_eq_some_iff_getElem.mp hfi
    have hSk : S k = true := (hm k).2 ((tx_mem (P := P) (w := w) g k).2 ⟨es.toList[j], List.getElem_mem hj, pj⟩)
    refine wpAny_pure (wpAny_pure ?_)
    have q := hQ s.heap (Heap.SameBut.refl a s.heap) ⟨o, es, ep, t, ho, hex, hd, g, nd, fun i => by
      rw [Bool.or_eq_true, decide_eq_true_eq, ← hm i]
      exact ⟨fun z => z.elim id (fun e => e ▸ hSk), .inl⟩, hb, hf, by rw [if_pos hSk]; exact hn, hr, hl⟩
    rw [hSk] at q
    exact q
  | none =>
    dsimp only
    have hnk : k ∉ es.toList.map txE := fun z => by
      obtain ⟨e, he, q⟩ := (tx_mem (P := P) (w := w) g k).1 z
      have c := List.findIdx?_eq_none_iff.mp hfi e he
      rw [q] at c
      cases c
    have hSk : S k = false := Bool.eq_false_iff.mpr fun q => hnk ((hm k).1 q)
    have hgw : ∀ (b : Bool) {s₁ : Shared} {Q' : Unit → Shared → Prop}, Q' () s₁ → wpAny (model P w) A (match b with | true => rule "set.scan.the-table-gave-way" | false => pure ()) Q' E s₁ :=
      fun b s₁ Q' q => by cases b <;> first | exact wpAny_pure q | exact wpAny_rule q
    have pm := layNew_perm t es ((PySem.strKind P w).hash k) (.str k u)
    have hf1 := layNew_fits t es ((PySem.strKind P w).hash k) (.str k u)
    have hr1 := layNew_ris t es ((PySem.strKind P w).hash k) (.str k u) hr
    have hl1 := layNew_led t es ((PySem.strKind P w).hash k) (.str k u)
    generalize layNew t es ((PySem.strKind P w).hash k) (.str k u) = Z at pm hf1 hr1 hl1 ⊢
    obtain ⟨es1, t1, wasDummy, gave⟩ := Z
    dsimp only at pm hf1 hr1 hl1 ⊢
    rw [Array.toList_push] at pm
    have pc : es1.toList.Perm (((PySem.strKind P w).hash k, Value.str k u) :: es.toList) := pm.trans (List.perm_append_singleton _ _)
    have pk : (es1.toList.map txE).Perm (k :: es.toList.map txE) := pc.map txE
    have g1 : ∀ e ∈ es1.toList, TxE P w e := fun e he => by
      rcases List.mem_cons.mp (pc.mem_iff.mp he) with z | z
      · rw [z]; exact ⟨k, u, rfl, rfl⟩
      · exact g e z
    have nd1 : (es1.toList.map txE).Nodup := pk.nodup_iff.mpr (List.nodup_cons.mpr ⟨hnk, nd⟩)
    have m1 : ∀ i, (S i || decide (i = k)) = true ↔ i ∈ es1.toList.map txE := fun i => by
      rw [Bool.or_eq_true, decide_eq_true_eq, hm i, pk.mem_iff, List.mem_cons]
      exact Or.comm
    have hsz : es1.size = n + 1 := by rw [← Array.length_toList, pc.length_eq, List.length_cons, Array.length_toList, hn]
    have hb1 : es1.size < scanBound := by rw [hsz]; exact room
    have hled : w.params.followText "set-order" = true ∨ t1.led = true := hl.imp id fun z => by rw [hl1]; exact z
    have fin : ∀ h', Heap.SameBut a s.heap h' → TxS P w h' a (fun j => S j || decide (j = k)) es1.size → Q true { s with heap := h' } := fun h' sb r => by
      have q := hQ h' sb
      rw [hSk] at q
      rw [hsz] at r
      exact q r
    refine wpAny_bind (hgw _ ?_)
    split
    · refine wpAny_bind ?_
      rw [hashByValue_scannable 8 hsc]
      refine wpAny_pure ?_
      refine tx_store ?_ ho hex hd g1 nd1 m1 hb1 ?_ ?_ ?_ ?_
      · intro b s₁ Q' q; cases b <;> first | exact wpAny_pure q | exact wpAny_rule q
      · first | (split <;> first | exact hf1 | exact SetTable.fits_plain_off hf1) | exact hf1
      · first | (split <;> exact hr1) | exact hr1
      · first | (split <;> exact hled) | exact hled
      · intro h' sb r; dsimp only; exact wpAny_pure (fin h' sb r)
    · refine wpAny_bind (wpAny_pure ?_)
      simp only [↓reduceIte]
      refine tx_store ?_ ho hex hd g1 nd1 m1 hb1 hf1 hr1 hled ?_
      · intro b s₁ Q' q; cases b <;> first | exact wpAny_pure q | exact wpAny_rule q
      · intro h' sb r; dsimp only; exact wpAny_pure (fin h' sb r)

theorem tx_add {k : Str} {u : PySem.Tok} {Q : Value → Shared → Prop} (R : TxS P w s.heap a S n) (room : n + 1 < scanBound)
    (hQ : ∀ h', Heap.SameBut a s.heap h' → TxS P w h' a (fun j => S j || decide (j = k)) (if S k = true then n else n + 1) → Q .none { s with heap := h', toks := s.toks + 1 }) :
    wpAny (model P w) A (call (.builtin "set.add") [.ref a, .str k u]) Q E s := by
  have hS : s.heap.SetOf (PySem.strKind P w) a S n := R.setOf
  refine wpAny_call_entry F.slot_set_add hS.typeIs F.entry_set_add ?_ (F.args_set_add_2 _ _)
  unfold Builtin.«set.add» Builtin.Frozenset.oneOther
  simp only [List.isEmpty_nil, bind_assoc]
  unfold Builtin.Frozenset.addrOf setAdd
  refine wpAny_bind (wpAny_pure ?_)
  try dsimp only
  refine wpAny_bind (wpAny_pure ?_)
  try dsimp only
  refine wpAny_bind ?_
  refine wpAny_holding ?_
  refine wpAny_bind ((PySem.strKind P w).pyHash (strKind_is _ _ _ _) ?_)
  refine tx_add_hashed (s := { s with toks := s.toks + 1 }) R room fun h' sb r => ?_
  show wpAny _ _ (ret Value.none) _ _ _
  exact wpAny_pure ⟨_, rfl, hQ h' sb r⟩
theorem tx_fresh {h : Heap} (P : Program) (w : World) : TxS P w (h.push { cls := .type "set", dict := none, data := .set #[] 0 (.fresh 0 0 (!w.params.followText "set-order")) }) h.objs.size (fun _ => false) 0 :=
  ⟨_, #[], 0, _, Heap.get?_push_size _ rfl, ⟨rfl, rfl, rfl⟩, rfl, (fun e he => by simp at he), (by simp), (fun k => by simp), (by decide), (by rfl), rfl, List.Pairwise.nil, by
    cases w.params.followText "set-order"
    · exact .inr rfl
    · exact .inl rfl⟩
/-- sorted(such a set) -/
theorem tx_sorted {Q : Value → Shared → Prop} (R : TxS P w s.heap a S n) (hh : A.handled = none) (h64 : n < 64)
    (hQ : ∀ s' p (out : Array Value) (c : Nat) (ss : List Str), (∀ b o, s.heap.get? b = some o → s'.heap.get? b = some o) → s'.gens = s.gens → s'.os = s.os → s.heap.objs.size ≤ p →
      s'.heap.get? p = some (seqObj "list" out c) → StrsAre out.toList ss → sortedS ss = true → ss.Nodup → (∀ k, k ∈ ss ↔ S k = true) → ss.length = n → Q (.ref p) s') :
    wpAny (model P w) A (call (.builtin "sorted") [.ref a]) Q E s := by
  obtain ⟨o, es, ep, t, ho, hex, hd, g, nd, hm, hb, hf, hn, hr, hl⟩ := R
  refine Calls.call_function_entry kind_sorted plain_sorted entry_sorted (args_sorted1 _) ?_
  unfold Builtin.«sorted»
  refine wpAny_bind (m := checkCount "sorted" 1 1 _) (wpAny_pure ?_)
  refine wpAny_bind (collect_set (A := A.in1) hh ⟨o, ho, hex.1, hd⟩ hf hb hr hl fun s1 vs k1 hz g1 o1 pm => ?_)
  have hvl : vs.length = n := by rw [pm.length_eq, List.length_map, Array.length_toList]; exact hn
  have hst : ∀ v ∈ vs, ∃ k t, v = Value.str k t := fun v hv => by
    obtain ⟨e, he, q⟩ := List.mem_map.mp (pm.mem_iff.mp hv)
    obtain ⟨k, t, h1, _⟩ := g e he
    exact ⟨k, t, by rw [← q]; exact h1⟩
  have hI : StrsAre vs (vs.map strOf) := strsAre_map vs hst
  have pk : (vs.map strOf).Perm (es.toList.map txE) := by
    have q := pm.map strOf
    rw [List.map_map] at q
    refine q.trans (List.Perm.of_eq (List.map_congr_left fun e he => ?_))
    obtain ⟨k, t, h1, _⟩ := g e he
    show strOf e.2 = txE e
    unfold txE
    rw [h1]
    rfl
  refine wpAny_bind (wpAny_newList ?_ (by rw [hvl, sizeLine_eq]; omega))
  have hoL : (s1.heap.push (seqObj "list" vs.toArray 0)).get? s1.heap.objs.size = some (seqObj "list" vs.toArray 0) := Heap.get?_push_size _ rfl
  refine wpAny_bind (wpAny_holding (wpAny_call_entry slot_list_sort ⟨_, hoL, rfl⟩ entry_list_sort (list_sort_treeK strKind_oneLt hoL hI.keysOf (fun v₁ v₂ rest e => keyKind_strs (by rw [← e]; exact hI)) (by rw [hvl]; exact h64) fun st' hp hs => ⟨_, rfl, ?_⟩) (args_list_sort _)))
  obtain ⟨ss', a1, a2, a3⟩ := sorted_out_str hI hp hs
  obtain ⟨c, hc⟩ := sortedHeap_at (vs := vs) (out := (arrOf st').map (·.2)) hoL
  have pn : ss'.Perm (es.toList.map txE) := a2.trans pk
  refine wpAny_pure ⟨_, rfl, hQ _ s1.heap.objs.size _ c ss' (fun b u e => ?_) g1 o1 hz hc a1 a3 (pn.nodup_iff.mpr nd) (fun k => by rw [pn.mem_iff, ← hm k]) ?_⟩
  · have q := k1 b u e
    have hlt := Heap.lt_size q
    show (sortedHeap (s1.heap.push (seqObj "list" vs.toArray 0)) s1.heap.objs.size vs _).get? b = some u
    rw [sortedHeap_old (Nat.ne_of_lt hlt) (by rw [size_push']; exact Nat.lt_succ_of_lt hlt)]
    exact Heap.get?_push_of_some _ q
  · rw [pn.length_eq, List.length_map, Array.length_toList]; exact hn
end
/-! ### as tracked things -/
/-- the set of texts at a -/
def TxO (P : Program) (w : World) (a : Addr) (S : Str → Bool) (n : Nat) : HO := .ext fun h => TxS P w h a S n
theorem txo_new {w : World} {P : Program} {H : Hp} {h : Heap} {a : Addr} {S : Str → Bool} {n : Nat} (R : TxS P w h a S n) : ObjOk P w H h a (TxO P w a S n) := by
  have ⟨o, _, _, _, ho, _⟩ := R
  exact ⟨R, ⟨o, ho⟩, fun h1 h2 p k => TxS.at p k⟩
section
variable {X : Cx}
theorem txo_get {pins : List (Addr × Obj)} {σ : L2.St} {H : Hp} {s : Shared} {a : Addr} {S : Str → Bool} {n : Nat} (I : Inv X pins σ H s) (ha : H a = some (TxO X.prog X.w a S n)) : TxS X.prog X.w s.heap a S n := (I.hok a _ ha).1
theorem txo_add {pins : List (Addr × Obj)} {σ : L2.St} {H : Hp} {s : Shared} {E : Value → Shared → Prop} {D : Addr} {S : Str → Bool} {n : Nat} {y : Str} {u : PySem.Tok} {Q : Value → Shared → Prop} (I : Inv X pins σ H s) (hD : H D = some (TxO X.prog X.w D S n)) (room : n + 1 < scanBound)
    (h : ∀ s', Inv X pins σ (upd H D (TxO X.prog X.w D (fun j => S j || decide (j = y)) (if S y = true then n else n + 1))) s' → Q .none s') : wpAny (model X.prog X.w) X.A (call (.builtin "set.add") [.ref D, .str y u]) Q E s := by
  refine tx_add (txo_get I hD) room fun h' sb new => ?_
  have he : ∃ u, h'.get? D = some u := by
    have ⟨o, _, _, _, ho, _⟩ := new
    exact ⟨o, ho⟩
  exact h _ (I.write (e := D) (t' := s.toks + 1) (by rw [hD]; trivial) (.inl rfl) (fun b u hb hu => (sb.2 b hb).trans hu) he (txo_new new))
/-- the comprehension of texts, over what wi gives -/
def tScT (P : Program) (w : World) (wi : TI) (g : TG) (tt : TT) (te : TE) (vs : List Nat) : TE := fun σ H Q => wi σ H fun J H1 => ∀ D, H1 D = none → ∃ W : Nat → Nat → Hp → Prop, (∃ m, W 0 m (upd H1 D (TxO P w D (fun _ => false) 0))) ∧ ∀ i m H, W i m H →
  (J.stop i H ∧ Q (.ref D) H) ∨ (J.go i H ∧ ∃ Nx : Hp → Prop, (∀ H', Nx H' → ∃ m', m' < m ∧ W (i + 1) m' H') ∧ ∀ x H', J.yld i H x H' → g x (wipe σ vs) H' fun σ2 H2 => wipe σ2 vs = wipe σ vs ∧ tt σ2 H2 fun b H3 =>
    if b = true then te σ2 H3 fun y H4 => ∃ (c : Str) (S : Str → Bool) (n : Nat), y = .str c ∧ H4 D = some (TxO P w D S n) ∧ n + 1 < scanBound ∧ Nx (upd H4 D (TxO P w D (fun j => S j || decide (j = c)) (if S c = true then n else n + 1))) else Nx H3)
theorem sct_core {pins : List (Addr × Obj)} {s : Shared} {σ : L2.St} {H : Hp} {Q : VK} {elt tg iter : Expr} {ifs : List Expr} {scope : Scope} {own : List (PySem.Str × Nat)} {pos pos' : Pos} {wi : TI} {g : TG} {tt : TT} {te : TE} {use : Option (Value → Sem Unit)} {Qf : Value → Shared → Prop}
    (hc : X.calm = true) (hN : X.N.Nodup) (I : Inv X pins σ H s) (hi : PI X tg iter wi) (ok : BlkOk X.N X.env.scope scope own)
    (hg : ∀ (s : Shared) (H : Hp) (C : Addr) (cl : List (PySem.Str × Addr)) (fp : List Addr), PG (X.blk s H scope (compEnvC scope cl C X.env) fp) tg g) (ht : ∀ (s : Shared) (H : Hp) (C : Addr) (cl : List (PySem.Str × Addr)) (fp : List Addr), PTs (X.blk s H scope (compEnvC scope cl C X.env) fp) ifs tt)
    (he : ∀ (s : Shared) (H : Hp) (C : Addr) (cl : List (PySem.Str × Addr)) (fp : List Addr), PE (X.blk s H scope (compEnvC scope cl C X.env) fp) elt te) (hs : ∀ x, foldedSetIterable iter X.env x = pure x)
    (h : tScT X.prog X.w wi g tt te (own.map (·.2)) σ H Q)
    (hRR : ∀ D C s' m H', Inv X pins σ H' s' → Q (.ref D) H' → s'.heap.Ns C m → FpOk X pins H' C → compPost (model X.prog X.w) X.A X.xe use Qf (.ref D) C (.ok .next) s') :
    wpAny (model X.prog X.w) X.A (comprehension (.SetComp elt [⟨tg, iter, ifs, 0⟩] scope pos) scope X.env pos' (newSet (.type "set")) false (eval iter X.env) use) Qf X.xe s := by
  have hfree : ∀ y ∈ scope.names, y.2 = .free → ∃ c, X.env.cells.lookup y.1 = some c := fun y hy e => by
    rcases ok.free y hy e with k | k
    · exact I.ok.has _ (.inl k)
    · exact I.ok.has _ (.inr k)
  refine wpAny_comprehension_free (use := use) rfl hs (closure_ok hfree) ok.kind (fun y hy e => by rw [ok.uniq y hy, e])
    (thn (hi.run pins s σ H _ I h) fun xv s1 hx => thn hx fun itv s2 h2 => ?_)
  obtain ⟨it, fp, tn, J, H2, e, I2, T, st2, f2, q⟩ := h2
  subst e
  refine PpSet.newSet_ok (newEnv_comp ?_)
  generalize hD : s2.heap.objs.size = D
  have hDn : H2 D = none := I2.hok.fresh (Nat.le_of_eq hD)
  obtain ⟨W, ⟨m0, w0⟩, turn⟩ := q D hDn
  -- the new list
  generalize hs3 : ({ s2 with heap := s2.heap.push { cls := .type "set", dict := none, data := .set #[] 0 (.fresh 0 0 (!X.w.params.followText "set-order")) } } : Shared) = s3
  have I3 : Inv X pins σ (upd H2 D (TxO X.prog X.w D (fun _ => false) 0)) s3 := by
    rw [← hs3]
    refine I2.laid (t' := s2.toks) (fun b o e => Heap.get?_push_of_some _ e) (Nat.le_of_eq hD) ?_
    rw [← hD]
    exact txo_new (tx_fresh X.prog X.w)
  have h3 : s3.heap = s2.heap.push { cls := .type "set", dict := none, data := .set #[] 0 (.fresh 0 0 (!X.w.params.followText "set-order")) } := by rw [← hs3]
  have sz : ∀ b ∈ fp, b < s2.heap.objs.size := fun b hb => by
    obtain ⟨o, e, _⟩ := T.obj _ _ st2 b hb
    exact Heap.lt_size e
  have f3 : ∀ b ∈ fp, FpOk X pins (upd H2 D (TxO X.prog X.w D (fun _ => false) 0)) b ∧ b < s3.heap.objs.size := fun b hb => by
    have hlt := sz b hb
    refine ⟨⟨?_, (f2 b hb).2⟩, by rw [h3, Heap.size_push]; exact Nat.lt_succ_of_lt hlt⟩
    rw [upd_ne (by rw [← hD]; exact Nat.ne_of_lt hlt)]
    exact (f2 b hb).1
  have st3 : tn 0 s3.heap := T.keep _ _ _ st2 fun b _ o e => by rw [h3]; exact Heap.get?_push_of_some _ e
  have I4 := block_start I3 ok hN f3
  have pg := hg s3 (upd H2 D (TxO X.prog X.w D (fun _ => false) 0)) s3.heap.objs.size (cellsFrom (s3.heap.objs.size + 1) scope.names (cloFrom X.env.cells scope.names [])) fp
  have pt := ht s3 (upd H2 D (TxO X.prog X.w D (fun _ => false) 0)) s3.heap.objs.size (cellsFrom (s3.heap.objs.size + 1) scope.names (cloFrom X.env.cells scope.names [])) fp
  have pe := he s3 (upd H2 D (TxO X.prog X.w D (fun _ => false) 0)) s3.heap.objs.size (cellsFrom (s3.heap.objs.size + 1) scope.names (cloFrom X.env.cells scope.names [])) fp
  show codeAny _ _ (.compStart (.SetComp elt [⟨tg, iter, ifs, 0⟩] scope pos) 0 (.ref it) (.ref D) (compEnvC scope (cellsFrom (s3.heap.objs.size + 1) scope.names (cloFrom X.env.cells scope.names [])) s3.heap.objs.size X.env)) (compPost (model X.prog X.w) X.A X.xe use Qf (.ref D) s3.heap.objs.size) { s3 with heap := pushCells (s3.heap.push { cls := .type "dict", data := .dict #[] }) scope.names }
  have nfp : ∀ b ∈ fp, (upd H2 D (TxO X.prog X.w D (fun _ => false) 0)) b = none := fun b hb => (f3 b hb).1.1
  generalize hce : compEnvC scope (cellsFrom (s3.heap.objs.size + 1) scope.names (cloFrom X.env.cells scope.names [])) s3.heap.objs.size X.env = ce at I4 pg pt pe ⊢
  have cL : ce.locals = s3.heap.objs.size := by subst hce; rfl
  generalize hH3 : upd H2 D (TxO X.prog X.w D (fun _ => false) 0) = H3 at I3 I4 pg pt pe w0 nfp f3
  generalize hs4 : ({ s3 with heap := pushCells (s3.heap.push { cls := .type "dict", data := .dict #[] }) scope.names } : Shared) = s4 at I4 ⊢
  have st4 : tn 0 s4.heap := T.keep _ _ _ st3 fun b _ o e => by rw [← hs4]; exact pushCells_keeps _ _ _ _ (Heap.get?_push_of_some _ e)
  have stat : ∀ {σ' : L2.St} {H' : Hp} {s' : Shared}, Inv (X.blk s3 H3 scope ce fp) [] σ' H' s' → (∀ b ∈ fp, H' b = none) → ∀ b ∈ fp, FpOk (X.blk s3 H3 scope ce fp) [] H' b := fun {σ' H' s'} I' hn b hb =>
    ⟨hn b hb, (I'.ok.exf b hb).1, I'.ok.exfs b hb, .inl hb, fun x c e => (I'.ok.exf b hb).2 x c e, fun p hp => absurd (show p ∈ ([] : List (Addr × Obj)) ++ [] from hp) (by simp)⟩
  have loop : codeAny (model X.prog X.w) X.A (.compLoop (.SetComp elt [⟨tg, iter, ifs, 0⟩] scope pos) 0 (.ref it) (.ref D) ce) (compPost (model X.prog X.w) X.A X.xe use Qf (.ref D) s3.heap.objs.size) s4 := by
    refine PpSet.compLoopS_any (fun n s' => ∃ i H', Inv (X.blk s3 H3 scope ce fp) [] (wipe σ (own.map (·.2))) H' s' ∧ tn i s'.heap ∧ (∀ b ∈ fp, H' b = none) ∧ W i n H') ?_ m0 ⟨0, H3, I4, st4, nfp, w0⟩
    rintro n s5 ⟨i, H5, I5, st5, n5, w5⟩
    rcases turn i n H5 w5 with ⟨stop, qq⟩ | ⟨go, Nx, hNx, step⟩
    · have td := T.done (X.blk s3 H3 scope ce fp) rfl rfl rfl hc i [] s5 _ H5 (fun _ _ => False) I5 (stat I5 n5) st5 stop
      refine thnF td fun r s6 ⟨hr, I6⟩ => ?_
      subst hr
      -- back in the def's context
      have I7 : Inv X pins σ H5 s6 := I3.call' (ch := fp) I6.os I6.base I6.hok I6.bare fun b hb => ⟨(f3 b hb).1.2.2.2.1, (f3 b hb).1.2.1, (f3 b hb).1.2.2.2.2.1, (f3 b hb).1.2.2.2.2.2⟩
      have nC : H5 s3.heap.objs.size = none := by
        have z : H5 ce.locals = none := I6.free
        rw [cL] at z
        exact z
      obtain ⟨m, hn, _⟩ := I6.loc
      have hn : s6.heap.Ns ce.locals m := hn
      rw [cL] at hn
      exact hRR D s3.heap.objs.size s6 m H5 I7 qq hn (I3.fpOk (Nat.le_refl _) nC)
    · have ti := T.item (X.blk s3 H3 scope ce fp) rfl rfl rfl hc i [] s5 _ H5 (fun _ _ => False) I5 (stat I5 n5) st5 go
      refine thnF ti fun r s6 ⟨u, hr, h6⟩ => ?_
      subst hr
      refine thnF h6 fun _ s7 ⟨x, H7, I7, r7, y7, st7, n7⟩ => ?_
      have I7' := I7.pinned (stat I7 n7) (T.obj _ _ st7)
      refine thnF (pg.run _ s7 _ H7 x u _ I7' r7 (step x H7 y7)) fun _ s8 ⟨σ8, H8, I8, hw8, q8⟩ => ?_
      refine thnF (pt.run _ s8 σ8 H8 _ I8 q8) fun b s9 ⟨H9, I9, q9⟩ => ?_
      -- the turn's end
      have fin : ∀ {s' : Shared} {H' : Hp}, Inv (X.blk s3 H3 scope ce fp) ([] ++ pinsAt fp s7.heap) σ8 H' s' → Nx H' → ∃ m, m < n ∧ ∃ i H', Inv (X.blk s3 H3 scope ce fp) [] (wipe σ (own.map (·.2))) H' s' ∧ tn i s'.heap ∧ (∀ b ∈ fp, H' b = none) ∧ W i m H' := fun {s' H'} I' nx => by
        obtain ⟨m', hm, w'⟩ := hNx H' nx
        have pin' : ∀ b ∈ fp, ∀ o, s7.heap.get? b = some o → s'.heap.get? b = some o ∧ H' b = none := fun b hb o e =>
          let z := I'.pin (b, o) (List.mem_append_right _ (List.mem_append_right _ (mem_pinsAt hb e)))
          ⟨z.1, z.2.1⟩
        have hl : (wipe σ (own.map (·.2))).length = σ8.length := by rw [← hw8, wipe_length]
        refine ⟨m', hm, i + 1, H', (I'.unpinned (pins := [])).weak hl (fun j v e => ?_), T.keep _ _ _ st7 fun b hb o e => (pin' b hb o e).1, fun b hb => ?_, w'⟩
        · rw [← hw8] at e
          exact (wipe_some e).1
        · obtain ⟨o, e, _⟩ := T.obj _ _ st7 b hb
          exact (pin' b hb o e).2
      cases b with
      | false =>
        simp only [Bool.false_eq_true, if_false] at q9 ⊢
        exact fin I9 q9
      | true =>
        simp only [if_true] at q9 ⊢
        refine thnF (pe.run _ s9 σ8 H9 _ I9 q9) fun z s10 ⟨yv, H10, I10, r10, cb, S0, n0, ey, hD10, hz10, nx⟩ => ?_
        subst ey
        obtain ⟨tk, rfl⟩ : ∃ tk, z = Value.str cb tk := r10
        exact txo_add (X := X.blk s3 H3 scope ce fp) I10 hD10 hz10 fun s11 I11 => fin I11 nx
  exact PpSet.codeAny_compStart_set loop (T.self X.A 0 _ _ _ st4 loop)
theorem pe_scT {elt tg iter : Expr} {ifs : List Expr} {scope : Scope} {own : List (PySem.Str × Nat)} {pos : Pos} {wi : TI} {g : TG} {tt : TT} {te : TE} (hc : X.calm = true) (hN : X.N.Nodup) (hi : PI X tg iter wi) (ok : BlkOk X.N X.env.scope scope own)
    (hg : ∀ (s : Shared) (H : Hp) (C : Addr) (cl : List (PySem.Str × Addr)) (fp : List Addr), PG (X.blk s H scope (compEnvC scope cl C X.env) fp) tg g) (ht : ∀ (s : Shared) (H : Hp) (C : Addr) (cl : List (PySem.Str × Addr)) (fp : List Addr), PTs (X.blk s H scope (compEnvC scope cl C X.env) fp) ifs tt)
    (he : ∀ (s : Shared) (H : Hp) (C : Addr) (cl : List (PySem.Str × Addr)) (fp : List Addr), PE (X.blk s H scope (compEnvC scope cl C X.env) fp) elt te) (hs : ∀ x, foldedSetIterable iter X.env x = pure x := by intro _; rfl) :
    PE X (.SetComp elt [⟨tg, iter, ifs, 0⟩] scope pos) (tScT X.prog X.w wi g tt te (own.map (·.2))) := by
  refine ⟨fun pins s σ H Q I h => ?_⟩
  rw [PpSet.eval_SetComp]
  refine sct_core hc hN I hi ok hg ht he hs h fun D C s' m H' I' q hn ⟨f0, f1, f2, f3, f4, f5⟩ => ⟨m, hn, fun h'' sb => ?_⟩
  exact ⟨.ref D, H', I'.turned (t' := s'.toks) (fun b o hb e => (sb.2 b hb).trans e) f0 f1 f3 f4 f5, rfl, q⟩
/-- sorted of a set of texts, fewer than 64 -/
def rSortTx (P : Program) (w : World) : List V → Hp → VK → Prop := fun vs H Q => ∃ (a : Addr) (S : Str → Bool) (n : Nat), vs = [V.ref a] ∧ H a = some (TxO P w a S n) ∧ n < 64 ∧
  ∀ (ss : List Str) (p : Addr), sortedS ss = true → ss.Nodup → (∀ k, k ∈ ss ↔ S k = true) → ss.length = n → H p = none → Q (.ref p) (upd H p (.lst (ss.map V.str)))
theorem cr_sortTx (hc : X.calm = true) : CallR X (.builtin "sorted") (rSortTx X.prog X.w) := by
  intro pins s σ H vs us Q I r h
  obtain ⟨a, S, n, rfl, ha, h64, q⟩ := h
  rw [Vals.ref1 r]
  refine tx_sorted (txo_get I ha) (I.ok.hd hc) h64 fun s' p out c ss k g o hp hg hi hs hd hm hl => ?_
  have hlen : (ss.map V.str).length ≤ sizeLine := by rw [List.length_map, hl, sizeLine_eq]; omega
  have hn : H p = none := I.hok.fresh hp
  have J : Inv X pins σ (upd H p (.lst (ss.map V.str))) { s with heap := s'.heap, gens := s'.gens, drawn := s'.drawn, toks := s'.toks } :=
    I.call (ch := []) (Un.laid k hp hn) (I.hok.laid k hp ⟨hlen, out.toList, c, vals_of_strs hi, hg⟩) (by rw [g]; exact I.bare) (fun _ z => nomatch z)
  have e : s' = { s with heap := s'.heap, gens := s'.gens, drawn := s'.drawn, toks := s'.toks } := by
    cases s'
    cases s
    cases o
    rfl
  rw [e]
  exact ⟨.ref p, _, J, rfl, q ss p hs hd hm hl hn⟩
end
section
variable {P : Program} {w : World} {J : It} {n : Nat} {G : Hp → Prop} {Y : Nat → Hp → V → Hp → Prop}
/-- over any walk: the set of what is taken, turn by turn -/
theorem sct_it (wk : Walk J n G Y) {g : TG} {tt : TT} {te : TE} {vs : List Nat} {σ : L2.St} {H1 : Hp} {D : Addr} {Qd : Hp → Prop} (Pv : Nat → Hp → Prop) (h0 : Pv 0 (upd H1 D (TxO P w D (fun _ => false) 0))) (hG : ∀ i H, i ≤ n → Pv i H → G H)
    (hs : ∀ i x H H', i < n → Pv i H → Y i H x H' → g x (wipe σ vs) H' fun σ2 H2 => wipe σ2 vs = wipe σ vs ∧ tt σ2 H2 fun b H3 =>
      if b = true then te σ2 H3 fun y H4 => ∃ (c : Str) (S : Str → Bool) (n : Nat), y = .str c ∧ H4 D = some (TxO P w D S n) ∧ n + 1 < scanBound ∧ Pv (i + 1) (upd H4 D (TxO P w D (fun j => S j || decide (j = c)) (if S c = true then n else n + 1))) else Pv (i + 1) H3) (hd : ∀ H, Pv n H → Qd H) :
    ∃ W : Nat → Nat → Hp → Prop, (∃ m, W 0 m (upd H1 D (TxO P w D (fun _ => false) 0))) ∧ ∀ i m H, W i m H →
      (J.stop i H ∧ Qd H) ∨ (J.go i H ∧ ∃ Nx : Hp → Prop, (∀ H', Nx H' → ∃ m', m' < m ∧ W (i + 1) m' H') ∧ ∀ x H', J.yld i H x H' → g x (wipe σ vs) H' fun σ2 H2 => wipe σ2 vs = wipe σ vs ∧ tt σ2 H2 fun b H3 =>
        if b = true then te σ2 H3 fun y H4 => ∃ (c : Str) (S : Str → Bool) (n : Nat), y = .str c ∧ H4 D = some (TxO P w D S n) ∧ n + 1 < scanBound ∧ Nx (upd H4 D (TxO P w D (fun j => S j || decide (j = c)) (if S c = true then n else n + 1))) else Nx H3) := by
  refine ⟨fun i m H => m = n - i ∧ i ≤ n ∧ Pv i H, ⟨n, rfl, Nat.zero_le _, h0⟩, fun i m H ⟨hm, hi, p⟩ => ?_⟩
  rcases Nat.lt_or_eq_of_le hi with hlt | rfl
  · exact .inr ⟨wk.goes i H hlt (hG i H hi p), Pv (i + 1), fun H' p' => ⟨n - (i + 1), by omega, rfl, hlt, p'⟩, fun x H' y => hs i x H H' hlt p (wk.yields i H x H' hlt (hG i H hi p) y)⟩
  · exact .inl ⟨wk.stops H (hG _ H hi p), hd H p⟩
end
end El

set_option Elab.async false
set_option linter.all false
set_option maxRecDepth 100000
set_option maxHeartbeats 4000000
namespace K02
open PySem PySem.Spec PyProof.Rows L2 El NdefX
def topS (i : Nat) : Stmt := PySem.Challenge.pw_elseput_k02_one_comparison.main.body.getD i (.Pass ⟨0, 0, 0, 0⟩)
abbrev s_is_name : Stmt := topS 17
theorem sc_is_name : FnScope ["text", "letter"] ["text"] (defScope s_is_name) := ⟨rfl, rfl, rfl, by decide +kernel, rfl, by decide +kernel, by decide +kernel⟩

abbrev s_in_bound : Stmt := topS 23
theorem sc_in_bound : FnScope ["value"] ["value"] (defScope s_in_bound) := ⟨rfl, rfl, rfl, by decide +kernel, rfl, by decide +kernel, by decide +kernel⟩

abbrev s_check_name : Stmt := topS 24
theorem sc_check_name : FnScope ["text"] ["text"] (defScope s_check_name) := ⟨rfl, rfl, rfl, by decide +kernel, rfl, by decide +kernel, by decide +kernel⟩

abbrev s_check_number : Stmt := topS 25
theorem sc_check_number : FnScope ["value"] ["value"] (defScope s_check_number) := ⟨rfl, rfl, rfl, by decide +kernel, rfl, by decide +kernel, by decide +kernel⟩

abbrev s_comparisons : Stmt := topS 36
theorem sc_comparisons : FnScope ["tree", "branch", "part"] ["tree"] (defScope s_comparisons) := ⟨rfl, rfl, rfl, by decide +kernel, rfl, by decide +kernel, by decide +kernel⟩

abbrev s_holds : Stmt := topS 40
theorem sc_holds : FnScope ["tree", "content", "word"] ["tree", "content"] (defScope s_holds) := ⟨rfl, rfl, rfl, by decide +kernel, rfl, by decide +kernel, by decide +kernel⟩

abbrev s_sign_holds : Stmt := topS 41
theorem sc_sign_holds : FnScope ["left", "sign", "right"] ["left", "sign", "right"] (defScope s_sign_holds) := ⟨rfl, rfl, rfl, by decide +kernel, rfl, by decide +kernel, by decide +kernel⟩

abbrev s__law_state : Stmt := topS 50
theorem sc__law_state : FnScope ["_law_script"] ["_law_script"] (defScope s__law_state) := ⟨rfl, rfl, rfl, by decide +kernel, rfl, by decide +kernel, by decide +kernel⟩

abbrev s__law_draw : Stmt := topS 51
theorem sc__law_draw : FnScope ["_law_state_here", "_law_many", "_law_first", "_law_second", "_law_third", "_law_digit"] ["_law_state_here", "_law_many"] (defScope s__law_draw) := ⟨rfl, rfl, rfl, by decide +kernel, rfl, by decide +kernel, by decide +kernel⟩

abbrev s__law_pick : Stmt := topS 52
theorem sc__law_pick : FnScope ["_law_state_here", "_law_row"] ["_law_state_here", "_law_row"] (defScope s__law_pick) := ⟨rfl, rfl, rfl, by decide +kernel, rfl, by decide +kernel, by decide +kernel⟩

abbrev s__law_number : Stmt := topS 53
theorem sc__law_number : FnScope ["_law_state_here", "_law_kind"] ["_law_state_here"] (defScope s__law_number) := ⟨rfl, rfl, rfl, by decide +kernel, rfl, by decide +kernel, by decide +kernel⟩

abbrev s__law_names : Stmt := topS 54
theorem sc__law_names : FnScope ["_law_state_here", "_law_many", "_law_letters", "_law_style", "_law_shift", "_law_code", "_law_spot", "_law_base", "_law_k", "_law_reserved_here", "_law_result", "_law_word"] ["_law_state_here", "_law_many"] (defScope s__law_names) := ⟨rfl, rfl, rfl, by decide +kernel, rfl, by decide +kernel, by decide +kernel⟩

abbrev s__law_is_int : Stmt := topS 55
theorem sc__law_is_int : FnScope ["_law_thing"] ["_law_thing"] (defScope s__law_is_int) := ⟨rfl, rfl, rfl, by decide +kernel, rfl, by decide +kernel, by decide +kernel⟩

abbrev s__law_same : Stmt := topS 56
theorem sc__law_same : FnScope ["_law_actual", "_law_due", "_law_k", "_law_key"] ["_law_actual", "_law_due"] (defScope s__law_same) := ⟨rfl, rfl, rfl, by decide +kernel, rfl, by decide +kernel, by decide +kernel⟩

abbrev s__law_holds : Stmt := topS 57
theorem sc__law_holds : FnScope ["_law_tree", "_law_content", "_law_number_here"] ["_law_tree", "_law_content"] (defScope s__law_holds) := ⟨rfl, rfl, rfl, by decide +kernel, rfl, by decide +kernel, by decide +kernel⟩

abbrev s__law_reserved : Stmt := topS 58
theorem sc__law_reserved : FnScope ["_law_words"] [] (defScope s__law_reserved) := ⟨rfl, rfl, rfl, by decide +kernel, rfl, by decide +kernel, by decide +kernel⟩

abbrev s__law_bad_name : Stmt := topS 59
theorem sc__law_bad_name : FnScope ["_law_state_here", "_law_name", "_law_kind", "_law_others", "_law_spot"] ["_law_state_here", "_law_name", "_law_kind"] (defScope s__law_bad_name) := ⟨rfl, rfl, rfl, by decide +kernel, rfl, by decide +kernel, by decide +kernel⟩

abbrev s__law_bad_number : Stmt := topS 60
theorem sc__law_bad_number : FnScope ["_law_state_here", "_law_far"] ["_law_state_here"] (defScope s__law_bad_number) := ⟨rfl, rfl, rfl, by decide +kernel, rfl, by decide +kernel, by decide +kernel⟩

abbrev s__law_made : Stmt := topS 61
theorem sc__law_made : FnScope ["_law_field", "_law_sign", "_law_number_here", "e", "_law_kinds"] ["_law_field", "_law_sign", "_law_number_here"] (defScope s__law_made) := ⟨rfl, rfl, rfl, by decide +kernel, rfl, by decide +kernel, by decide +kernel⟩

abbrev s__law_asked : Stmt := topS 62
theorem sc__law_asked : FnScope ["_law_field", "_law_sign", "_law_number_here", "_law_other_field", "_law_values", "_law_tree", "_law_made_here", "_law_value", "_law_content", "_law_handed"] ["_law_field", "_law_sign", "_law_number_here", "_law_other_field", "_law_values"] (defScope s__law_asked) := ⟨rfl, rfl, rfl, by decide +kernel, rfl, by decide +kernel, by decide +kernel⟩

abbrev s__law_refused : Stmt := topS 63
theorem sc__law_refused : FnScope ["_law_state_here", "_law_name", "_law_sign", "_law_number_here", "_law_kind", "_law_bad_name_here", "_law_bad_sign", "_law_bad_number_here", "_law_field", "_law_word", "_law_value", "_law_due"] ["_law_state_here", "_law_name", "_law_sign", "_law_number_here", "_law_kind"] (defScope s__law_refused) := ⟨rfl, rfl, rfl, by decide +kernel, rfl, by decide +kernel, by decide +kernel⟩

abbrev s_law : Stmt := topS 64
theorem sc_law : FnScope ["_law_script", "_law_state_here", "_law_names_here", "_law_number_here", "_law_second", "_law_signs", "_law_sign", "_law_kind", "_law_value"] ["_law_script"] (defScope s_law) := ⟨rfl, rfl, rfl, by decide +kernel, rfl, by decide +kernel, by decide +kernel⟩

abbrev s_Condition___init__ : Stmt := mthS (topS 35) 1
theorem sc_Condition___init__ : FnScope ["self", "tree", "part"] ["self", "tree"] (defScope s_Condition___init__) := ⟨rfl, rfl, rfl, by decide +kernel, rfl, by decide +kernel, by decide +kernel⟩

abbrev s_Condition_compare : Stmt := mthS (topS 35) 4
theorem sc_Condition_compare : FnScope ["field", "sign", "number"] ["field", "sign", "number"] (defScope s_Condition_compare) := ⟨rfl, rfl, rfl, by decide +kernel, rfl, by decide +kernel, by decide +kernel⟩

abbrev s_Condition_fields : Stmt := mthS (topS 35) 6
theorem sc_Condition_fields : FnScope ["self"] ["self"] (defScope s_Condition_fields) := ⟨rfl, rfl, rfl, by decide +kernel, rfl, by decide +kernel, by decide +kernel⟩

abbrev s_Condition_size : Stmt := mthS (topS 35) 7
theorem sc_Condition_size : FnScope ["self"] ["self"] (defScope s_Condition_size) := ⟨rfl, rfl, rfl, by decide +kernel, rfl, by decide +kernel, by decide +kernel⟩

abbrev s_Condition___call__ : Stmt := mthS (topS 35) 9
theorem sc_Condition___call__ : FnScope ["self", "content", "field"] ["self", "content"] (defScope s_Condition___call__) := ⟨rfl, rfl, rfl, by decide +kernel, rfl, by decide +kernel, by decide +kernel⟩

abbrev s_BadName : Stmt := mthS (topS 3) 0
theorem sc_BadName : NdefX.NScope ["self", "name", "__class__"] ["self", "name"] ["__class__"] (defScope s_BadName) := NdefX.nscope_by (by decide +kernel)
abbrev s_BadNumber : Stmt := mthS (topS 4) 0
theorem sc_BadNumber : NdefX.NScope ["self", "value", "__class__"] ["self", "value"] ["__class__"] (defScope s_BadNumber) := NdefX.nscope_by (by decide +kernel)
abbrev s_BadSign : Stmt := mthS (topS 5) 0
theorem sc_BadSign : NdefX.NScope ["self", "sign", "__class__"] ["self", "sign"] ["__class__"] (defScope s_BadSign) := NdefX.nscope_by (by decide +kernel)
abbrev s_BadText : Stmt := mthS (topS 6) 0
theorem sc_BadText : NdefX.NScope ["self", "line", "column", "__class__"] ["self", "line", "column"] ["__class__"] (defScope s_BadText) := NdefX.nscope_by (by decide +kernel)
abbrev s_TooLarge : Stmt := mthS (topS 7) 0
theorem sc_TooLarge : NdefX.NScope ["self", "most", "__class__"] ["self", "most"] ["__class__"] (defScope s_TooLarge) := NdefX.nscope_by (by decide +kernel)
abbrev s_UnknownName : Stmt := mthS (topS 8) 0
theorem sc_UnknownName : NdefX.NScope ["self", "name", "__class__"] ["self", "name"] ["__class__"] (defScope s_UnknownName) := NdefX.nscope_by (by decide +kernel)
abbrev s_UnknownField : Stmt := mthS (topS 8) 0
theorem sc_UnknownField : NdefX.NScope ["self", "name", "__class__"] ["self", "name"] ["__class__"] (defScope s_UnknownField) := NdefX.nscope_by (by decide +kernel)
section
variable {P : Program} {w : World} {K : PySem.W.Frag} {mg : Str → Option Value} {base : Heap}
variable {t_BOUND t_LETTERS t_LONGEST_NAME : Tok} {a_RESERVED a_SIGNS a_BadName a_BadNumber a_BadSign a_Condition a_ElseputError a_UnknownField : Addr}
structure Gs (K : PySem.W.Frag) (mg : Str → Option Value) (t_BOUND t_LETTERS t_LONGEST_NAME : Tok) (a_RESERVED a_SIGNS a_BadName a_BadNumber a_BadSign a_Condition a_ElseputError a_UnknownField : Addr) : Prop where
  z_ValueError : mg "ValueError" = none
  z_all : mg "all" = none
  z_bool : mg "bool" = none
  z_dict : mg "dict" = none
  z_int : mg "int" = none
  z_isinstance : mg "isinstance" = none
  z_len : mg "len" = none
  z_list : mg "list" = none
  z_property : mg "property" = none
  z_range : mg "range" = none
  z_sorted : mg "sorted" = none
  z_staticmethod : mg "staticmethod" = none
  z_str : mg "str" = none
  z_super : mg "super" = none
  z_tuple : mg "tuple" = none
  g_BOUND : mg "BOUND" = some (.int 1000000000000000000000000000000 t_BOUND)
  g_LETTERS : mg "LETTERS" = some (.str "abcdefghijklmnopqrstuvwxyz" t_LETTERS)
  g_LONGEST_NAME : mg "LONGEST_NAME" = some (.int 12 t_LONGEST_NAME)
  g_RESERVED : mg "RESERVED" = some (.ref a_RESERVED)
  q_RESERVED : ∀ H, SqT K H a_RESERVED [(.str "always"), (.str "never"), (.str "and"), (.str "or"), (.str "not"), (.str "when"), (.str "add"), (.str "set"), (.str "change"), (.str "tell"), (.str "refuse"), (.str "take"), (.str "look"), (.str "free"), (.str "lock"), (.str "keep"), (.str "keys"), (.str "fields")]
  g_SIGNS : mg "SIGNS" = some (.ref a_SIGNS)
  q_SIGNS : ∀ H, SqT K H a_SIGNS [(.str "<"), (.str "<="), (.str "=="), (.str "!="), (.str ">="), (.str ">")]
  g_BadName : mg "BadName" = some (.ref a_BadName)
  n_BadName : PySem.W.nsIn K mainGlobals "BadName" = some (some (.ref a_BadName))
  x_BadName : ExV K a_BadName ["name"]
  g_BadNumber : mg "BadNumber" = some (.ref a_BadNumber)
  n_BadNumber : PySem.W.nsIn K mainGlobals "BadNumber" = some (some (.ref a_BadNumber))
  x_BadNumber : ExV K a_BadNumber ["value"]
  g_BadSign : mg "BadSign" = some (.ref a_BadSign)
  n_BadSign : PySem.W.nsIn K mainGlobals "BadSign" = some (some (.ref a_BadSign))
  x_BadSign : ExV K a_BadSign ["sign"]
  g_Condition : mg "Condition" = some (.ref a_Condition)
  n_Condition : PySem.W.nsIn K mainGlobals "Condition" = some (some (.ref a_Condition))
  g_ElseputError : mg "ElseputError" = some (.ref a_ElseputError)
  n_ElseputError : PySem.W.nsIn K mainGlobals "ElseputError" = some (some (.ref a_ElseputError))
  g_UnknownField : mg "UnknownField" = some (.ref a_UnknownField)
  n_UnknownField : PySem.W.nsIn K mainGlobals "UnknownField" = some (some (.ref a_UnknownField))
  x_UnknownField : ExV K a_UnknownField ["name"]
  cl_Condition : Cls K a_Condition
  na_Condition__fields : NoAttr K a_Condition "_fields"
  na_Condition_tree : NoAttr K a_Condition "tree"
  cv_Condition_MOST : ∃ u, ClX.CVal K a_Condition (.type "type") "MOST" (.int 8) u
  rd_Condition : ClX.CRead K a_Condition (.type "type")
  m_BadName_ElseputError : PySem.W.exmOne K (.ref a_BadName) (.ref a_ElseputError) = some true
  m_BadNumber_ElseputError : PySem.W.exmOne K (.ref a_BadNumber) (.ref a_ElseputError) = some true
  m_BadSign_ElseputError : PySem.W.exmOne K (.ref a_BadSign) (.ref a_ElseputError) = some true
  m_UnknownField_ElseputError : PySem.W.exmOne K (.ref a_UnknownField) (.ref a_ElseputError) = some true
  k_BadName_BadName : PySem.W.kitOne K (.ref a_BadName) (.ref a_BadName) = some true
  k_BadName_BadSign : PySem.W.kitOne K (.ref a_BadName) (.ref a_BadSign) = some false
  k_BadName_BadNumber : PySem.W.kitOne K (.ref a_BadName) (.ref a_BadNumber) = some false
  k_BadName_ValueError : PySem.W.kitOne K (.ref a_BadName) (.type "ValueError") = some true
  k_BadNumber_BadName : PySem.W.kitOne K (.ref a_BadNumber) (.ref a_BadName) = some false
  k_BadNumber_BadSign : PySem.W.kitOne K (.ref a_BadNumber) (.ref a_BadSign) = some false
  k_BadNumber_BadNumber : PySem.W.kitOne K (.ref a_BadNumber) (.ref a_BadNumber) = some true
  k_BadNumber_ValueError : PySem.W.kitOne K (.ref a_BadNumber) (.type "ValueError") = some true
  k_BadSign_BadName : PySem.W.kitOne K (.ref a_BadSign) (.ref a_BadName) = some false
  k_BadSign_BadSign : PySem.W.kitOne K (.ref a_BadSign) (.ref a_BadSign) = some true
  k_BadSign_BadNumber : PySem.W.kitOne K (.ref a_BadSign) (.ref a_BadNumber) = some false
  k_BadSign_ValueError : PySem.W.kitOne K (.ref a_BadSign) (.type "ValueError") = some true
  k_UnknownField_BadName : PySem.W.kitOne K (.ref a_UnknownField) (.ref a_BadName) = some false
  k_UnknownField_BadSign : PySem.W.kitOne K (.ref a_UnknownField) (.ref a_BadSign) = some false
  k_UnknownField_BadNumber : PySem.W.kitOne K (.ref a_UnknownField) (.ref a_BadNumber) = some false
  k_UnknownField_ValueError : PySem.W.kitOne K (.ref a_UnknownField) (.type "ValueError") = some true
/-! ### the script's state -/
def stv (scr : Addr) (i v m c : Int) : List V := [.ref scr, .int i, .int v, .int m, .int c]
def DrAt (H : Hp) (st scr : Addr) : Prop := ∃ (ns : List Int) (i v m c : Int), H st = some (.lst (stv scr i v m c)) ∧ H scr = some (.lst (ns.map V.int)) ∧ ns.length ≤ 63 ∧ 0 ≤ i
theorem DrAt.ne {H : Hp} {st scr : Addr} {ns : List Int} {i v m c : Int} (h : H st = some (.lst (stv scr i v m c))) (h2 : H scr = some (.lst (ns.map V.int))) : scr ≠ st := by
  refine ne_of h2 h fun e => ?_
  injection e with e
  cases ns with
  | nil => simp [stv] at e
  | cons a r => simp [stv] at e
theorem DrAt.upd {H : Hp} {st scr : Addr} {ns : List Int} {i v m c i' v' m' c' : Int} (h : H st = some (.lst (stv scr i v m c))) (h2 : H scr = some (.lst (ns.map V.int))) (hl : ns.length ≤ 63) (h0 : 0 ≤ i') : DrAt (upd H st (.lst (stv scr i' v' m' c'))) st scr :=
  ⟨ns, i', v', m', c', upd_same, by rw [upd_ne (DrAt.ne h h2)]; exact h2, hl, h0⟩
theorem upd_id {H : Hp} {a : Addr} {o : HO} (h : H a = some o) : upd H a o = H := by
  funext b
  unfold L2.upd
  split
  · rename_i e; rw [e, h]
  · rfl
theorem DrAt.lst {H : Hp} {st scr : Addr} (h : DrAt H st scr) : ∃ l, H st = some (.lst l) := by
  obtain ⟨ns, i, v, m, c, h, _⟩ := h
  exact ⟨_, h⟩
theorem DrAt.new {H H' : Hp} {st scr : Addr} (h : DrAt H st scr) (s : Same H H') : DrAt H' st scr := by
  obtain ⟨ns, i, v, m, c, h1, h2, h3⟩ := h
  exact ⟨ns, i, v, m, c, s _ _ h1, s _ _ h2, h3⟩
theorem DrAt.at {H : Hp} {st scr p : Addr} {o : HO} (h : DrAt H st scr) (h1 : p ≠ st) (h2 : p ≠ scr) : DrAt (L2.upd H p o) st scr := by
  obtain ⟨ns, i, v, m, c, e1, e2, h3⟩ := h
  exact ⟨ns, i, v, m, c, by rw [upd_ne h1.symm]; exact e1, by rw [upd_ne h2.symm]; exact e2, h3⟩
theorem same_new {H : Hp} {p : Addr} {o : HO} (h : H p = none) : Same H (upd H p o) := fun b u q => by rw [upd_ne (ne_of_none q h)]; exact q
theorem free_new {H : Hp} {p q : Addr} {o : HO} (h : upd H p o q = none) : H q = none := by
  unfold L2.upd at h
  split at h
  · cases h
  · exact h
theorem new_ne {H : Hp} {p q : Addr} {o : HO} (h : upd H p o q = none) : q ≠ p := fun e => by rw [e, upd_same] at h; cases h
theorem len_add (a b : Str) : (a ++ b).length = a.length + b.length := by
  show (a.cps ++ b.cps).size = _
  rw [Array.size_append]
  rfl
theorem cps_add (a b : Str) : (a ++ b).cps.toList = a.cps.toList ++ b.cps.toList := by
  show (a.cps ++ b.cps).toList = _
  rw [Array.toList_append]
theorem len_cps (z : Str) : z.cps.toList.length = z.length := Array.length_toList
theorem line_of {n : Nat} (h : n ≤ 100000) : n ≤ sizeLine := Nat.le_trans h (by decide)
theorem line_lt {n : Nat} (h : n < 100000) : n < sizeLine := Nat.lt_of_lt_of_le h (by decide)
/-- all that stood stands, st's own numbers aside -/
def Bt (st : Addr) (H H' : Hp) : Prop := ∀ b o, b ≠ st → H b = some o → H' b = some o
theorem Bt.refl (st : Addr) (H : Hp) : Bt st H H := fun _ _ _ h => h
theorem Bt.trans {st : Addr} {H H1 H2 : Hp} (a : Bt st H H1) (b : Bt st H1 H2) : Bt st H H2 := fun c o n h => b c o n (a c o n h)
theorem Bt.same {st : Addr} {H H' : Hp} (s : Same H H') : Bt st H H' := fun b o _ h => s b o h
theorem Bt.st {st : Addr} {H : Hp} {o : HO} : Bt st H (upd H st o) := fun b u n h => by rw [upd_ne n]; exact h
theorem Bt.free {st : Addr} {H H' : Hp} (s : Bt st H H') {l : Addr} (n : l ≠ st) (h : H' l = none) : H l = none := by
  cases q : H l with
  | none => rfl
  | some o => rw [s l o n q] at h; cases h
theorem DrAt.ne_new {H : Hp} {st scr p : Addr} (h : DrAt H st scr) (n : H p = none) : p ≠ st := by
  obtain ⟨l, e⟩ := h.lst
  exact (ne_of_none e n).symm

theorem DrAt.ne_scr {H : Hp} {st scr p : Addr} (h : DrAt H st scr) (n : H p = none) : p ≠ scr := by
  obtain ⟨ns, i, v, m, c, e1, e2, h3⟩ := h
  exact (ne_of_none e2 n).symm

/-! ### is_name -/
abbrev letters : Str := "abcdefghijklmnopqrstuvwxyz"
abbrev resv : List V := [.str "always", .str "never", .str "and", .str "or", .str "not", .str "when", .str "add", .str "set", .str "change", .str "tell", .str "refuse", .str "take", .str "look", .str "free", .str "lock", .str "keep", .str "keys", .str "fields"]
def isName (z : Str) : Bool := if (decide ((z.length : Int) < 1) || decide ((12 : Int) < z.length) || inV (.str z) resv) = true then false else z.cps.toList.all fun c => decide (c ∈ letters.cps.toList)
def sp_is_name (K : PySem.W.Frag) : Sp := fun vs H Q _ => ∃ z : Str, vs = [.str z] ∧ z.length ≤ 1000 ∧ ∀ H', Same H H' → Q (.bl (isName z)) H'
theorem len_is_name {vs : List V} {H : Hp} {Q : VK} {E : XK} (h : sp_is_name K vs H Q E) : vs.length = 1 := by
  obtain ⟨_, rfl, _⟩ := h
  rfl
theorem ok_is_name {f : Addr} {fd : FuncData} (F : Fun K "is_name" "is_name" s_is_name f fd) (T : Gs K mg t_BOUND t_LETTERS t_LONGEST_NAME a_RESERVED a_SIGNS a_BadName a_BadNumber a_BadSign a_Condition a_ElseputError a_UnknownField) : FnOk P w K mg base CX0 1 f fd ["text"] (sp_is_name K) := by
  refine F.ok sc_is_name (fun vs H Q E h => len_is_name h) (fun cdv A outer s H vs Q E hr h => ?_)
  obtain ⟨z, rfl, h0, q⟩ := h
  refine ⟨_, (pss_cons (ps_if (PW.pt (pw_or (pt_c op_ltM (pe_callB (lenK K) (by rfl) T.z_len PySem.boot_len (pa_cons (v_ 0) pa_nil)) pe_int) (pw_or (pt_c op_gtM (pe_callB (lenK K) (by rfl) T.z_len PySem.boot_len (pa_cons (v_ 0) pa_nil)) (pe_glob (v := .int 12) rfl T.g_LONGEST_NAME ⟨_, rfl⟩)) (pw_or1 (pt_c (inK K) (v_ 0) (pe_glob (v := .ref a_RESERVED) rfl T.g_RESERVED rfl)))))) (pss_one (ps_ret pe_bl)) pss_nil) (pss_one (ps_ret (pe_callB (allK K rfl) (by rfl) T.z_all (by decide +kernel) (pa_cons (pe_lc (own := [("letter", 1)]) (g := gName 1) (by rfl) sc_is_name.nd (pi_str (v_ 0)) (blkOk_by (N := ["text", "letter"]) (sc := defScope s_is_name) (by decide +kernel)) (fun _ _ _ _ _ => pg_name (i := 1) sc_is_name.nd rfl (Or.inl rfl)) (fun _ _ _ _ _ => pts_nil) (fun _ _ _ _ _ => (pe_c (inK K) (v_ 1) (pe_glob (v := .str "abcdefghijklmnopqrstuvwxyz") rfl T.g_LETTERS ⟨_, rfl⟩)))) pa_nil))))), ?_⟩
  refine ⟨line_of (by omega), ?_⟩
  have no : ∀ c : Bool, (decide ((z.length : Int) < 1) || decide ((12 : Int) < z.length) || inV (.str z) resv) = c → isName z = if c = true then false else z.cps.toList.all fun c => decide (c ∈ letters.cps.toList) := fun c e => by
    rw [← e]; rfl
  refine ite2 (fun e => ?_) (fun e => ?_)
  · have := q H (Same.refl H)
    rw [no true (by rw [show decide ((z.length : Int) < 1) = true from e]; rfl)] at this
    exact this
  refine ⟨line_of (by omega), ?_⟩
  refine ite2 (fun e1 => ?_) (fun e1 => ?_)
  · have := q H (Same.refl H)
    rw [no true (by rw [show decide ((12 : Int) < z.length) = true from e1, Bool.or_true]; rfl)] at this
    exact this
  refine ⟨_, .inr (T.q_RESERVED _), rfl, rfl, ?_⟩
  refine ite2 (fun e2 => ?_) (fun e2 => ?_)
  · have := q H (Same.refl H)
    rw [no true (by rw [show inV (.str z) resv = true from e2, Bool.or_true])] at this
    exact this
  have en : isName z = z.cps.toList.all fun c => decide (c ∈ letters.cps.toList) := by
    rw [no false (by rw [show decide ((z.length : Int) < 1) = false from Bool.eq_false_iff.mpr e, show decide ((12 : Int) < z.length) = false from Bool.eq_false_iff.mpr e1, show inV (.str z) resv = false from Bool.eq_false_iff.mpr e2]; rfl)]
    rfl
  refine ⟨z, rfl, fun D nD => lc_it walk_str (fun i H' => H' = upd H D (.lst (((z.cps.toList.take i).map fun c => decide (c ∈ letters.cps.toList)).map V.bl))) rfl (fun _ _ _ _ => True.intro) ?_ ?_⟩
  · rintro i x H1 H2 hi rfl ⟨rfl, c, hc, rfl⟩
    refine ⟨rfl, ?_⟩
    refine ⟨c, rfl, _, upd_same, ?_, ?_⟩
    · rw [List.length_map, List.length_map, List.length_take]
      have : z.cps.size = z.length := rfl
      exact small1000 (by omega)
    · rw [upd_upd]
      have e : z.cps.toList.take (i + 1) = z.cps.toList.take i ++ [c] := by
        rw [List.take_add_one, Array.getElem?_toList, hc]
        rfl
      rw [e, List.map_append, List.map_append]
      rfl
  · rintro H1 rfl
    rw [show z.cps.size = z.cps.toList.length from (Array.length_toList).symm, List.take_length]
    refine ⟨_, _, rfl, SqL.of upd_same, ?_⟩
    have := q _ (same_new nD (o := .lst ((z.cps.toList.map fun c => decide (c ∈ letters.cps.toList)).map V.bl)))
    rw [en] at this
    rw [List.all_map]
    exact this


end
section
variable {P : Program} {w : World} {K : PySem.W.Frag} {mg : Str → Option Value} {base : Heap}
variable {t_BOUND t_LETTERS t_LONGEST_NAME : Tok} {a_RESERVED a_SIGNS a_BadName a_BadNumber a_BadSign a_Condition a_ElseputError a_UnknownField : Addr}
/-! ### checks -/
theorem isName_mem {z : Str} (h : isName z = true) : (∀ c ∈ z.cps.toList, c ∈ letters.cps.toList) ∧ 1 ≤ z.length ∧ z.length ≤ 12 ∧ inV (.str z) resv = false := by
  unfold isName at h
  split at h
  · exact absurd h (by decide)
  · rename_i hc
    rw [Bool.not_eq_true, Bool.or_eq_false_iff, Bool.or_eq_false_iff, decide_eq_false_iff_not, decide_eq_false_iff_not] at hc
    exact ⟨fun c hm => of_decide_eq_true (List.all_eq_true.mp h c hm), by omega, by omega, hc.2⟩
theorem letters_small : ∀ c ∈ letters.cps.toList, c < 16 ^ 8 := by decide +kernel
theorem isName_asc {z : Str} (h : isName z = true) : Asc z := fun c hc => letters_small c ((isName_mem h).1 c hc)
def inB (i : Int) : Bool := decide (-1000000000000000000000000000000 ≤ i) && decide (i ≤ 1000000000000000000000000000000)
def BadN (K : PySem.W.Frag) (H : Hp) (z : Str) (E : XK) : Prop := ∀ (C d : Addr) (H' : Hp), PySem.W.nsIn K mainGlobals "BadName" = some (some (.ref C)) → Same H H' → H d = none → H' d = some (.xd [("name", .str z)]) → E (.ref C) (some d) H'
def BadI (K : PySem.W.Frag) (H : Hp) (i : Int) (E : XK) : Prop := ∀ (C d : Addr) (H' : Hp), PySem.W.nsIn K mainGlobals "BadNumber" = some (some (.ref C)) → Same H H' → H d = none → H' d = some (.xd [("value", .int i)]) → E (.ref C) (some d) H'
def BadS (K : PySem.W.Frag) (H : Hp) (z : Str) (E : XK) : Prop := ∀ (C d : Addr) (H' : Hp), PySem.W.nsIn K mainGlobals "BadSign" = some (some (.ref C)) → Same H H' → H d = none → H' d = some (.xd [("sign", .str z)]) → E (.ref C) (some d) H'
theorem BadS.same {K : PySem.W.Frag} {H H1 : Hp} {z : Str} {E : XK} (h : BadS K H z E) (s : Same H H1) : BadS K H1 z E := fun C d H' hC s2 nd hd => h C d H' hC (s.trans s2) (Same.free s nd) hd
theorem BadN.same {K : PySem.W.Frag} {H H1 : Hp} {z : Str} {E : XK} (h : BadN K H z E) (s : Same H H1) : BadN K H1 z E := fun C d H' hC s2 nd hd => h C d H' hC (s.trans s2) (Same.free s nd) hd
theorem BadI.same {K : PySem.W.Frag} {H H1 : Hp} {z : Int} {E : XK} (h : BadI K H z E) (s : Same H H1) : BadI K H1 z E := fun C d H' hC s2 nd hd => h C d H' hC (s.trans s2) (Same.free s nd) hd
def okx_BadName (ws : List V) : Prop := ∃ z : Str, ws = [.str z] ∧ z.length ≤ 1000 ∧ Asc z
def fs_BadName (ws : List V) : List (Str × V) := match ws with | [l] => [("name", l)] | _ => []
def okx_UnknownField (ws : List V) : Prop := okx_BadName ws
def fs_UnknownField (ws : List V) : List (Str × V) := fs_BadName ws
def okx_BadSign (ws : List V) : Prop := okx_BadName ws
def fs_BadSign (ws : List V) : List (Str × V) := match ws with | [l] => [("sign", l)] | _ => []
def okx_BadNumber (ws : List V) : Prop := ∃ l : Int, ws = [.int l] ∧ l.natAbs < 2 ^ 200
def fs_BadNumber (ws : List V) : List (Str × V) := match ws with | [l] => [("value", l)] | _ => []
theorem len_spE {C : Addr} {ok : List V → Prop} {fs : List V → List (Str × V)} {n : Nat} (hn : ∀ ws, ok ws → ws.length = n) {vs : List V} {H : Hp} {Q : VK} {E : XK} (h : spE C ok fs vs H Q E) : vs.length = n + 1 := by
  obtain ⟨a, ws, rfl, h, _⟩ := h
  rw [List.length_cons, hn _ h]
theorem log_200 {i : Int} (h : i.natAbs < 2 ^ 200) : i.natAbs.log2 < 1920 := by
  by_cases hz : i.natAbs = 0
  · rw [hz]
    decide
  · exact (Nat.log2_lt hz).mpr (Nat.lt_of_lt_of_le h (Nat.pow_le_pow_right (by decide) (by decide)))
theorem ok_BadName {C f cc cda : Addr} {doc pm ct oc ccl cl : Value} {od cdd cld : Option Addr} {osl ccs csl : Array (Option Value)} {vs0 : Array Value} {file : Str} {tf : Tok} {cdD : ClassData}
    (X : ExK K C f ["name"]) (lk : K.lookup f = some ⟨oc, od, .func (PySem.W.fnX "__init__" "BadName.__init__" (defArgs s_BadName) (defBody s_BadName) (defScope s_BadName) [("__class__", cc)] .none .none doc pm none (.ref cda) ct), osl⟩)
    (hcd : PySem.W.codeIn K (.ref cda) "BadName.__init__" = true) (hcode : K.lookup cda = some ⟨ccl, cdd, .fields vs0, ccs⟩) (hvs : vs0[2]? = some (.str file tf)) (hfile : ((P.main.file : Str) == file) = true)
    (hcell : K.lookup cc = some ⟨cl, cld, .cell (some (.ref C)), csl⟩) (hD : PySem.W.clsIn K C = some cdD) (hsuper : mg "super" = none) (hop : PySem.W.nsIn K PySem.cStatics "thirdparty.any" = some none) (htop : (P.main.scope.names.lookup ("super" : Str)).isSome = false) :
    FnOk P w K mg base CX0 1 f (PySem.W.fnX "__init__" "BadName.__init__" (defArgs s_BadName) (defBody s_BadName) (defScope s_BadName) [("__class__", cc)] .none .none doc pm none (.ref cda) ct) ["self", "name"] (spE C okx_BadName fs_BadName) := by
  refine fn_super lk hcd sc_BadName hcode hvs hfile hcell hD hsuper hop rfl rfl rfl htop rfl (fun vs H Q E h => len_spE (n := 1) (fun ws h => by obtain ⟨_, rfl, _⟩ := h; rfl) h) (fun A outer s H vs Q E hr h => ?_) (fun _ => rfl) (fun _ => rfl) (fun _ => rfl)
  obtain ⟨a, ws, rfl, ⟨l, rfl, l0, l1⟩, ea, q⟩ := h
  refine ⟨a, C, _, _, rfl, ea, X.oex, X.mro, X.sup, X.subV, pa_cons (pe_joined (.cons pe_str (.cons (pe_fmtR (v_ 1)) .nil))) pa_nil, pss_one (ps_ost (v_ 0) (v_ 1)), ?_⟩
  have tl := repr_le l1 l0
  have z0 : Str.empty.length = 0 := rfl
  have z1 : (Str.ofString "not a name: ").length = 12 := rfl
  refine ⟨_, rfl, line_of (by rw [len_add]; omega), .inl ⟨_, rfl, line_of (by omega), _, rfl, line_of (by rw [len_add, len_add]; omega), ?_⟩⟩
  refine ⟨ea, (by show 1 ≤ 1000; decide), ?_⟩
  exact ⟨a, C, rfl, X.oex, X.no _ (by simp), .inl ⟨ea, ost1 ea fun dx H' n ne e1 e2 hh => q dx _ n ne e1 e2 hh⟩⟩
theorem ok_BadSign {C f cc cda : Addr} {doc pm ct oc ccl cl : Value} {od cdd cld : Option Addr} {osl ccs csl : Array (Option Value)} {vs0 : Array Value} {file : Str} {tf : Tok} {cdD : ClassData}
    (X : ExK K C f ["sign"]) (lk : K.lookup f = some ⟨oc, od, .func (PySem.W.fnX "__init__" "BadSign.__init__" (defArgs s_BadSign) (defBody s_BadSign) (defScope s_BadSign) [("__class__", cc)] .none .none doc pm none (.ref cda) ct), osl⟩)
    (hcd : PySem.W.codeIn K (.ref cda) "BadSign.__init__" = true) (hcode : K.lookup cda = some ⟨ccl, cdd, .fields vs0, ccs⟩) (hvs : vs0[2]? = some (.str file tf)) (hfile : ((P.main.file : Str) == file) = true)
    (hcell : K.lookup cc = some ⟨cl, cld, .cell (some (.ref C)), csl⟩) (hD : PySem.W.clsIn K C = some cdD) (hsuper : mg "super" = none) (hop : PySem.W.nsIn K PySem.cStatics "thirdparty.any" = some none) (htop : (P.main.scope.names.lookup ("super" : Str)).isSome = false) :
    FnOk P w K mg base CX0 1 f (PySem.W.fnX "__init__" "BadSign.__init__" (defArgs s_BadSign) (defBody s_BadSign) (defScope s_BadSign) [("__class__", cc)] .none .none doc pm none (.ref cda) ct) ["self", "sign"] (spE C okx_BadSign fs_BadSign) := by
  refine fn_super lk hcd sc_BadSign hcode hvs hfile hcell hD hsuper hop rfl rfl rfl htop rfl (fun vs H Q E h => len_spE (n := 1) (fun ws h => by obtain ⟨_, rfl, _⟩ := h; rfl) h) (fun A outer s H vs Q E hr h => ?_) (fun _ => rfl) (fun _ => rfl) (fun _ => rfl)
  obtain ⟨a, ws, rfl, ⟨l, rfl, l0, l1⟩, ea, q⟩ := h
  refine ⟨a, C, _, _, rfl, ea, X.oex, X.mro, X.sup, X.subV, pa_cons (pe_joined (.cons pe_str (.cons (pe_fmtR (v_ 1)) .nil))) pa_nil, pss_one (ps_ost (v_ 0) (v_ 1)), ?_⟩
  have tl := repr_le l1 l0
  have z0 : Str.empty.length = 0 := rfl
  have z1 : (Str.ofString "not a sign: ").length = 12 := rfl
  refine ⟨_, rfl, line_of (by rw [len_add]; omega), .inl ⟨_, rfl, line_of (by omega), _, rfl, line_of (by rw [len_add, len_add]; omega), ?_⟩⟩
  refine ⟨ea, (by show 1 ≤ 1000; decide), ?_⟩
  exact ⟨a, C, rfl, X.oex, X.no _ (by simp), .inl ⟨ea, ost1 ea fun dx H' n ne e1 e2 hh => q dx _ n ne e1 e2 hh⟩⟩
theorem ok_BadNumber {C f cc cda : Addr} {doc pm ct oc ccl cl : Value} {od cdd cld : Option Addr} {osl ccs csl : Array (Option Value)} {vs0 : Array Value} {file : Str} {tf : Tok} {cdD : ClassData}
    (X : ExK K C f ["value"]) (lk : K.lookup f = some ⟨oc, od, .func (PySem.W.fnX "__init__" "BadNumber.__init__" (defArgs s_BadNumber) (defBody s_BadNumber) (defScope s_BadNumber) [("__class__", cc)] .none .none doc pm none (.ref cda) ct), osl⟩)
    (hcd : PySem.W.codeIn K (.ref cda) "BadNumber.__init__" = true) (hcode : K.lookup cda = some ⟨ccl, cdd, .fields vs0, ccs⟩) (hvs : vs0[2]? = some (.str file tf)) (hfile : ((P.main.file : Str) == file) = true)
    (hcell : K.lookup cc = some ⟨cl, cld, .cell (some (.ref C)), csl⟩) (hD : PySem.W.clsIn K C = some cdD) (hsuper : mg "super" = none) (hop : PySem.W.nsIn K PySem.cStatics "thirdparty.any" = some none) (htop : (P.main.scope.names.lookup ("super" : Str)).isSome = false) :
    FnOk P w K mg base CX0 1 f (PySem.W.fnX "__init__" "BadNumber.__init__" (defArgs s_BadNumber) (defBody s_BadNumber) (defScope s_BadNumber) [("__class__", cc)] .none .none doc pm none (.ref cda) ct) ["self", "value"] (spE C okx_BadNumber fs_BadNumber) := by
  refine fn_super lk hcd sc_BadNumber hcode hvs hfile hcell hD hsuper hop rfl rfl rfl htop rfl (fun vs H Q E h => len_spE (n := 1) (fun ws h => by obtain ⟨_, rfl, _⟩ := h; rfl) h) (fun A outer s H vs Q E hr h => ?_) (fun _ => rfl) (fun _ => rfl) (fun _ => rfl)
  obtain ⟨a, ws, rfl, ⟨l, rfl, l0⟩, ea, q⟩ := h
  refine ⟨a, C, _, _, rfl, ea, X.oex, X.mro, X.sup, X.subV, pa_cons (pe_joined (.cons pe_str (.cons (pe_fmt (v_ 1)) .nil))) pa_nil, pss_one (ps_ost (v_ 0) (v_ 1)), ?_⟩
  have tl := int_text_len_1921 (log_200 l0)
  have z0 : Str.empty.length = 0 := rfl
  have z1 : (Str.ofString "out of bounds: ").length = 15 := rfl
  refine ⟨_, rfl, line_of (by rw [len_add]; omega), .inr ⟨_, rfl, log_200 l0, _, rfl, line_of (by rw [len_add, len_add]; omega), ?_⟩⟩
  refine ⟨ea, (by show 1 ≤ 1000; decide), ?_⟩
  exact ⟨a, C, rfl, X.oex, X.no _ (by simp), .inl ⟨ea, ost1 ea fun dx H' n ne e1 e2 hh => q dx _ n ne e1 e2 hh⟩⟩
theorem ok_UnknownField {C f cc cda D : Addr} {doc pm ct oc ccl cl : Value} {od cdd cld : Option Addr} {osl ccs csl : Array (Option Value)} {vs0 : Array Value} {file : Str} {tf : Tok} {cdD : ClassData}
    (X : ExI K C D f ["name"]) (lk : K.lookup f = some ⟨oc, od, .func (PySem.W.fnX "__init__" "UnknownName.__init__" (defArgs s_UnknownField) (defBody s_UnknownField) (defScope s_UnknownField) [("__class__", cc)] .none .none doc pm none (.ref cda) ct), osl⟩)
    (hcd : PySem.W.codeIn K (.ref cda) "UnknownName.__init__" = true) (hcode : K.lookup cda = some ⟨ccl, cdd, .fields vs0, ccs⟩) (hvs : vs0[2]? = some (.str file tf)) (hfile : ((P.main.file : Str) == file) = true)
    (hcell : K.lookup cc = some ⟨cl, cld, .cell (some (.ref D)), csl⟩) (hD : PySem.W.clsIn K D = some cdD) (hsuper : mg "super" = none) (hop : PySem.W.nsIn K PySem.cStatics "thirdparty.any" = some none) (htop : (P.main.scope.names.lookup ("super" : Str)).isSome = false) :
    FnOk P w K mg base CX0 1 f (PySem.W.fnX "__init__" "UnknownName.__init__" (defArgs s_UnknownField) (defBody s_UnknownField) (defScope s_UnknownField) [("__class__", cc)] .none .none doc pm none (.ref cda) ct) ["self", "name"] (spE C okx_UnknownField fs_UnknownField) := by
  refine fn_super lk hcd sc_UnknownField hcode hvs hfile hcell hD hsuper hop rfl rfl rfl htop rfl (fun vs H Q E h => len_spE (n := 1) (fun ws h => by obtain ⟨_, rfl, _⟩ := h; rfl) h) (fun A outer s H vs Q E hr h => ?_) (fun _ => rfl) (fun _ => rfl) (fun _ => rfl)
  obtain ⟨a, ws, rfl, ⟨l, rfl, l0, l1⟩, ea, q⟩ := h
  refine ⟨a, C, _, _, rfl, ea, X.oex, X.mro, X.sup, X.subV, pa_cons (pe_joined (.cons pe_str (.cons (pe_fmtR (v_ 1)) .nil))) pa_nil, pss_one (ps_ost (v_ 0) (v_ 1)), ?_⟩
  have tl := repr_le l1 l0
  have z0 : Str.empty.length = 0 := rfl
  have z1 : (Str.ofString "unknown: ").length = 9 := rfl
  refine ⟨_, rfl, line_of (by rw [len_add]; omega), .inl ⟨_, rfl, line_of (by omega), _, rfl, line_of (by rw [len_add, len_add]; omega), ?_⟩⟩
  refine ⟨ea, (by show 1 ≤ 1000; decide), ?_⟩
  exact ⟨a, C, rfl, X.oex, X.no _ (by simp), .inl ⟨ea, ost1 ea fun dx H' n ne e1 e2 hh => q dx _ n ne e1 e2 hh⟩⟩
end
section
variable {P : Program} {w : World} {K : PySem.W.Frag} {mg : Str → Option Value} {base : Heap}
variable {t_BOUND t_LETTERS t_LONGEST_NAME : Tok} {a_RESERVED a_SIGNS a_BadName a_BadNumber a_BadSign a_Condition a_ElseputError a_UnknownField : Addr}
def sp_in_bound (K : PySem.W.Frag) : Sp := fun vs H Q _ => ∃ i : Int, vs = [.int i] ∧ Q (.bl (inB i)) H
theorem len_in_bound {vs : List V} {H : Hp} {Q : VK} {E : XK} (h : sp_in_bound K vs H Q E) : vs.length = 1 := by
  obtain ⟨_, rfl, _⟩ := h
  rfl
theorem ok_in_bound {f : Addr} {fd : FuncData} (F : Fun K "in_bound" "in_bound" s_in_bound f fd) (T : Gs K mg t_BOUND t_LETTERS t_LONGEST_NAME a_RESERVED a_SIGNS a_BadName a_BadNumber a_BadSign a_Condition a_ElseputError a_UnknownField) : FnOk P w K mg base CX0 1 f fd ["value"] (sp_in_bound K) := by
  refine F.ok sc_in_bound (fun vs H Q E h => len_in_bound h) (fun cdv A outer s H vs Q E hr h => ?_)
  obtain ⟨i, rfl, q⟩ := h
  refine ⟨_, (pss_one (ps_ret (pe_chain op_leM op_leM (pe_un un_negM (pe_glob (v := .int 1000000000000000000000000000000) rfl T.g_BOUND ⟨_, rfl⟩)) (v_ 0) (pe_glob (v := .int 1000000000000000000000000000000) rfl T.g_BOUND ⟨_, rfl⟩)))), ?_⟩
  refine ⟨_, rfl, ?_⟩
  unfold inB at q
  refine ite2 (fun e => ?_) (fun e => ?_)
  · have e : decide (-1000000000000000000000000000000 ≤ i) = true := e
    rw [e, Bool.true_and] at q
    exact q
  · have e : decide (-1000000000000000000000000000000 ≤ i) = false := Bool.eq_false_iff.mpr e
    rw [e, Bool.false_and] at q
    exact q
def sp_check_name (K : PySem.W.Frag) : Sp := fun vs H Q E => ∃ z : Str, vs = [.str z] ∧ z.length ≤ 1000 ∧ Asc z ∧ (if isName z = true then ∀ H', Same H H' → Q .non H' else BadN K H z E)
theorem len_check_name {vs : List V} {H : Hp} {Q : VK} {E : XK} (h : sp_check_name K vs H Q E) : vs.length = 1 := by
  obtain ⟨_, rfl, _⟩ := h
  rfl
theorem ok_check_name {f : Addr} {fd : FuncData} {f_is_name : Addr} {fd_is_name : FuncData} {f_BadName : Addr} {fd_BadName : FuncData} (F : Fun K "check_name" "check_name" s_check_name f fd) (T : Gs K mg t_BOUND t_LETTERS t_LONGEST_NAME a_RESERVED a_SIGNS a_BadName a_BadNumber a_BadSign a_Condition a_ElseputError a_UnknownField) (c_is_name : Cal P w K mg base CX0 1 "is_name" f_is_name fd_is_name ["text"] (sp_is_name K)) (c_BadName : CalE P w K mg base 1 "BadName" a_BadName f_BadName fd_BadName ["self", "name"] okx_BadName fs_BadName ["name"]) : FnOk P w K mg base (L2.CX P w) 3 f fd ["text"] (sp_check_name K) := by
  refine F.okX sc_check_name (fun vs H Q E h => len_check_name h) (fun cdv A outer s H vs Q E hr h => ?_)
  obtain ⟨z, rfl, h0, h1, q⟩ := h
  refine ⟨_, (pss_one (ps_if (pt_not (pt_t K (pe_call c_is_name.G (hr.mono (by first | decide | omega)) rfl c_is_name.m c_is_name.kp c_is_name.b .nil pass0 (pa_cons (v_ 0) pa_nil)))) (pss_one (ps_raise rfl (takes_of rfl rfl rfl rfl) (pmk_oex c_BadName.X.oex c_BadName.X.iC c_BadName.X.tI c_BadName.G (hr.mono (by first | decide | omega)) c_BadName.b .nil pass0 rfl c_BadName.m (pa_cons (v_ 0) pa_nil)))) pss_nil)), ?_⟩
  refine ⟨z, rfl, h0, fun H' s => ?_⟩
  refine ite2 (fun e => ?_) (fun e => ?_)
  · have e : ¬ isName z = true := by
      have e : (!isName z) = true := e
      rw [Bool.not_eq_true'] at e
      rw [e]
      decide
    rw [if_neg e] at q
    refine mk_spE (by show 1 ≤ 1000; decide) ⟨z, rfl, h0, h1⟩ (fun d nd => ?_)
    exact q a_BadName d _ T.n_BadName (s.trans (same_new nd)) (Same.free s nd) upd_same
  · have e : isName z = true := by
      have e : ¬ (!isName z) = true := e
      rw [Bool.not_eq_true, Bool.not_eq_false'] at e
      exact e
    rw [if_pos e] at q
    exact q H' s
def sp_check_number (K : PySem.W.Frag) : Sp := fun vs H Q E => ∃ i : Int, vs = [.int i] ∧ i.natAbs < 2 ^ 200 ∧ (if inB i = true then Q .non H else BadI K H i E)
theorem len_check_number {vs : List V} {H : Hp} {Q : VK} {E : XK} (h : sp_check_number K vs H Q E) : vs.length = 1 := by
  obtain ⟨_, rfl, _⟩ := h
  rfl
theorem ok_check_number {f : Addr} {fd : FuncData} {f_in_bound : Addr} {fd_in_bound : FuncData} {f_BadNumber : Addr} {fd_BadNumber : FuncData} (F : Fun K "check_number" "check_number" s_check_number f fd) (T : Gs K mg t_BOUND t_LETTERS t_LONGEST_NAME a_RESERVED a_SIGNS a_BadName a_BadNumber a_BadSign a_Condition a_ElseputError a_UnknownField) (c_in_bound : Cal P w K mg base CX0 1 "in_bound" f_in_bound fd_in_bound ["value"] (sp_in_bound K)) (c_BadNumber : CalE P w K mg base 1 "BadNumber" a_BadNumber f_BadNumber fd_BadNumber ["self", "value"] okx_BadNumber fs_BadNumber ["value"]) : FnOk P w K mg base (L2.CX P w) 3 f fd ["value"] (sp_check_number K) := by
  refine F.okX sc_check_number (fun vs H Q E h => len_check_number h) (fun cdv A outer s H vs Q E hr h => ?_)
  obtain ⟨i, rfl, h0, q⟩ := h
  refine ⟨_, (pss_one (ps_if (pt_not (pt_t K (pe_call c_in_bound.G (hr.mono (by first | decide | omega)) rfl c_in_bound.m c_in_bound.kp c_in_bound.b .nil pass0 (pa_cons (v_ 0) pa_nil)))) (pss_one (ps_raise rfl (takes_of rfl rfl rfl rfl) (pmk_oex c_BadNumber.X.oex c_BadNumber.X.iC c_BadNumber.X.tI c_BadNumber.G (hr.mono (by first | decide | omega)) c_BadNumber.b .nil pass0 rfl c_BadNumber.m (pa_cons (v_ 0) pa_nil)))) pss_nil)), ?_⟩
  refine ⟨i, rfl, ?_⟩
  refine ite2 (fun e => ?_) (fun e => ?_)
  · have e : ¬ inB i = true := by
      have e : (!inB i) = true := e
      rw [Bool.not_eq_true'] at e
      rw [e]
      decide
    rw [if_neg e] at q
    refine mk_spE (by show 1 ≤ 1000; decide) ⟨i, rfl, h0⟩ (fun d nd => ?_)
    exact q a_BadNumber d _ T.n_BadNumber (same_new nd) nd upd_same
  · have e : inB i = true := by
      have e : ¬ (!inB i) = true := e
      rw [Bool.not_eq_true, Bool.not_eq_false'] at e
      exact e
    rw [if_pos e] at q
    exact q
end
section
variable {P : Program} {w : World} {K : PySem.W.Frag} {mg : Str → Option Value} {base : Heap}
variable {t_BOUND t_LETTERS t_LONGEST_NAME : Tok} {a_RESERVED a_SIGNS a_BadName a_BadNumber a_BadSign a_Condition a_ElseputError a_UnknownField : Addr}
/-! ### contents -/
abbrev Ct := List (Key × V)
def kS (z : Str) : Key := .inr z
theorem inV_str {z : Str} : ∀ {xs : List Str}, inV (.str z) (xs.map V.str) = decide (z ∈ xs)
  | [] => rfl
  | a :: r => by
    have ih := inV_str (z := z) (xs := r)
    unfold inV at ih ⊢
    rw [List.map_cons, List.any_cons, ih]
    have : eqV (.str a) (.str z) = decide (z = a) := by
      show (a == z) = _
      rw [Bool.eq_iff_iff, beq_iff_eq, decide_eq_true_iff, eq_comm]
    rw [this, Bool.eq_iff_iff, Bool.or_eq_true, decide_eq_true_iff, decide_eq_true_iff, decide_eq_true_iff, List.mem_cons]
theorem flat_strs {xs : List Str} : (xs.map V.str).all flatV = true := by
  rw [List.all_map]
  exact List.all_eq_true.mpr fun _ _ => rfl
def Ints (c : Ct) : Prop := ∀ k v, valV c k = some v → ∃ i : Int, v = .int i
theorem val_some {c : Ct} {i : Nat} {k : Key} {v : V} (h : c[i]? = some (k, v)) : ∃ v', valV c k = some v' := by
  unfold valV
  cases hf : c.find? (fun kv => decide (kv.1 = k)) with
  | none =>
    have := List.find?_eq_none.mp hf (k, v) (List.mem_of_getElem? h)
    simp at this
  | some p => exact ⟨_, rfl⟩
def sp__law_draw (K : PySem.W.Frag) : Sp := fun vs H Q _ => ∃ (st scr : Addr) (many : Int), vs = [.ref st, .int many] ∧ DrAt H st scr ∧ 0 < many ∧ many.natAbs < 2 ^ 200 ∧
  ∀ (r : Int) (l : List V), 0 ≤ r → r < many → DrAt (upd H st (.lst l)) st scr → Q (.int r) (upd H st (.lst l))
theorem len__law_draw {vs : List V} {H : Hp} {Q : VK} {E : XK} (h : sp__law_draw K vs H Q E) : vs.length = 2 := by
  obtain ⟨_, _, _, rfl, _⟩ := h
  rfl
theorem ok__law_draw {f : Addr} {fd : FuncData} (F : Fun K "_law_draw" "_law_draw" s__law_draw f fd) (T : Gs K mg t_BOUND t_LETTERS t_LONGEST_NAME a_RESERVED a_SIGNS a_BadName a_BadNumber a_BadSign a_Condition a_ElseputError a_UnknownField) : FnOk P w K mg base CX0 1 f fd ["_law_state_here", "_law_many"] (sp__law_draw K) := by
  refine F.ok sc__law_draw (fun vs H Q E h => len__law_draw h) (fun cdv A outer s H vs Q E hr h => ?_)
  obtain ⟨st, scr, many, rfl, ⟨ns, i, v, m, c, hst, hscr, hl, h0⟩, hm0, hm1, q⟩ := h
  have hne := DrAt.ne hst hscr
  refine ⟨_, (Evl.pss_cut (ps_if (pt_c (eqK K hr.units) (e_x K (v_ 0) pe_int) pe_int) (pss_cons (ps_if (pt_c op_geM (e_x K (v_ 0) pe_int) (pe_callB (lenK K) (by rfl) T.z_len PySem.boot_len (pa_cons (e_x K (v_ 0) pe_int) pa_nil))) (pss_one (ps_ret pe_int)) pss_nil) (pss_cons (ps_asg (pe_callTy call_intM (by rfl) T.z_int (by decide +kernel) (pa_cons (e_x K (e_x K (v_ 0) pe_int) (e_x K (v_ 0) pe_int)) pa_nil)) (pg_sub (v_ 0) pe_int set_list)) (pss_cons (ps_asg (pe_op (addK K) (e_x K (v_ 0) pe_int) pe_int) (pg_sub (v_ 0) pe_int set_list)) (pss_cons (ps_asg pe_int (pg_sub (v_ 0) pe_int set_list)) (pss_cons (ps_asg pe_int (pg_sub (v_ 0) pe_int set_list)) (pss_one (ps_if (pt_c op_ltM (e_x K (v_ 0) pe_int) (pe_op op_powM pe_int pe_int)) (pss_one (ps_asg pe_int (pg_sub (v_ 0) pe_int set_list))) pss_nil))))))) pss_nil) (pss_cons (ps_asg (pe_op (addK K) (e_x K (v_ 0) pe_int) pe_int) (pg_sub (v_ 0) pe_int set_list)) (pss_cons (ps_if (pt_c (eqK K hr.units) (e_x K (v_ 0) pe_int) pe_int) (pss_cons (ps_set (i := 5) sc__law_draw.nd rfl (.inl rfl) (pe_op op_modM (pe_callTy call_intM (by rfl) T.z_int (by decide +kernel) (pa_cons (e_x K (v_ 0) pe_int) pa_nil)) (v_ 1))) (pss_cons (ps_asg (pe_op op_divM (pe_callTy call_intM (by rfl) T.z_int (by decide +kernel) (pa_cons (e_x K (v_ 0) pe_int) pa_nil)) (v_ 1)) (pg_sub (v_ 0) pe_int set_list)) (Evl.pss_cut (ps_if (PW.pt (pw_or (pt_c (eqK K hr.units) (e_x K (v_ 0) pe_int) pe_int) (pw_or1 (pt_c op_geM (e_x K (v_ 0) pe_int) pe_int)))) (pss_one (ps_asg pe_int (pg_sub (v_ 0) pe_int set_list))) pss_nil) (pss_one (ps_ret (v_ 5)))))) pss_nil) (pss_cons (ps_set (i := 2) sc__law_draw.nd rfl (.inl rfl) (pe_op op_modM (pe_callTy call_intM (by rfl) T.z_int (by decide +kernel) (pa_cons (pe_op (addK K) (pe_op op_mulSM (e_x K (v_ 0) pe_int) pe_int) (pe_op op_mulSM (e_x K (v_ 0) pe_int) pe_int)) pa_nil)) pe_int)) (pss_cons (ps_set (i := 3) sc__law_draw.nd rfl (.inl rfl) (pe_op op_modM (pe_callTy call_intM (by rfl) T.z_int (by decide +kernel) (pa_cons (pe_op (addK K) (pe_op (addK K) (pe_op op_mulSM (v_ 2) (v_ 2)) (pe_op op_mulSM (e_x K (v_ 0) pe_int) pe_int)) pe_int) pa_nil)) pe_int)) (Evl.pss_cut (ps_if (pt_c op_geM (e_x K (v_ 0) pe_int) pe_int) (pss_one (ps_asg pe_int (pg_sub (v_ 0) pe_int set_list))) pss_nil) (pss_cons (ps_set (i := 4) sc__law_draw.nd rfl (.inl rfl) (pe_op op_modM (pe_callTy call_intM (by rfl) T.z_int (by decide +kernel) (pa_cons (pe_op (addK K) (pe_op op_mulSM (v_ 3) pe_int) (v_ 2)) pa_nil)) pe_int)) (pss_one (ps_ret (pe_op op_modM (pe_callTy call_intM (by rfl) T.z_int (by decide +kernel) (pa_cons (v_ 4) pa_nil)) (v_ 1))))))))))), ?_⟩
  refine ⟨fun σ' H' => σ' = [some (.ref st), some (.int many), none, none, none, none] ∧ ∃ i v m c, H' = upd H st (.lst (stv scr i v m c)) ∧ 0 ≤ i, ?_, ?_⟩
  · refine ⟨_, .inl (SqL.of hst), _, rfl, ?_⟩
    refine ite2 (fun e => ?_) (fun e => ?_)
    · refine ⟨_, .inl (SqL.of hst), _, rfl, _, .inl (SqL.of hst), _, rfl, .inl ⟨_, .inl (SqL.of hscr), ?_⟩⟩
      refine ite2 (fun e1 => ?_) (fun e1 => ?_)
      · have z := q 0 (stv scr i v m c) (by omega) hm0 (DrAt.upd hst hscr hl h0)
        rw [upd_id hst] at z
        exact z
      · have e2 := of_decide_eq_false (Bool.eq_false_iff.mpr e1)
        rw [List.length_map] at e2
        obtain ⟨z, hz⟩ : ∃ z, atI (ns.map V.int) i = some (.int z) := by
          have hi : i.toNat < ns.length := by omega
          refine ⟨ns[i.toNat], ?_⟩
          have hq : atI (ns.map V.int) ((i.toNat : Nat) : Int) = some (.int ns[i.toNat]) := atI_nat (by rw [List.getElem?_map, List.getElem?_eq_getElem hi]; rfl)
          rwa [show ((i.toNat : Nat) : Int) = i by omega] at hq
        refine ⟨_, .inl (SqL.of hst), _, rfl, _, .inl (SqL.of hst), _, rfl, _, .inl (SqL.of hscr), _, hz, ?_⟩
        refine ⟨_, _, _, 2, rfl, rfl, hst, rfl, ?_⟩
        refine ⟨_, .inl (SqL.of upd_same), _, rfl, ?_⟩
        refine ⟨_, _, _, 1, rfl, rfl, upd_same, rfl, ?_⟩
        refine ⟨_, _, _, 3, rfl, rfl, upd_same, rfl, ?_⟩
        refine ⟨_, _, _, 4, rfl, rfl, upd_same, rfl, ?_⟩
        refine ⟨_, .inl (SqL.of upd_same), _, rfl, (by unfold CPow; decide), ?_⟩
        refine ite2 (fun e3 => ?_) (fun e3 => ?_)
        · refine ⟨_, _, _, 3, rfl, rfl, upd_same, rfl, rfl, i + 1, z, 2, 0, ?_, by omega⟩
          rw [upd_upd, upd_upd, upd_upd, upd_upd]
          rfl
        · refine ⟨rfl, i + 1, z, 1, 0, ?_, by omega⟩
          rw [upd_upd, upd_upd, upd_upd]
          rfl
    · exact ⟨rfl, i, v, m, c, (upd_id hst).symm, h0⟩
  · rintro σ' H' ⟨rfl, i, v, m, c, rfl, h0⟩
    have hscr' : ∀ o, upd H st o scr = some (.lst (ns.map V.int)) := fun o => by rw [upd_ne hne]; exact hscr
    refine ⟨_, .inl (SqL.of upd_same), _, rfl, ?_⟩
    refine ⟨_, _, _, 4, rfl, rfl, upd_same, rfl, ?_⟩
    rw [upd_upd]
    refine ⟨_, .inl (SqL.of upd_same), _, rfl, ?_⟩
    refine ite2 (fun e => ?_) (fun e => ?_)
    · refine ⟨_, .inl (SqL.of upd_same), _, rfl, hm0, ?_⟩
      refine ⟨_, .inl (SqL.of upd_same), _, rfl, .inr (wide_div hm0 (b := 200) hm1 (by decide) (by decide)), ?_⟩
      refine ⟨_, _, _, 2, rfl, rfl, upd_same, rfl, ?_⟩
      rw [upd_upd]
      have fin : ∀ m' : Int, Q (.int (v % many)) (upd H st (.lst (stv scr i (v / many) m' (c + 1)))) := fun m' => q _ _ (Int.emod_nonneg _ (by omega)) (Int.emod_lt_of_pos _ hm0) (DrAt.upd hst hscr hl h0)
      refine ⟨fun σ' H' => σ' = [some (.ref st), some (.int many), none, none, none, some (.int (v % many))] ∧ ∃ m', H' = upd H st (.lst (stv scr i (v / many) m' (c + 1))), ?_, ?_⟩
      · refine ⟨_, .inl (SqL.of upd_same), _, rfl, ?_⟩
        refine ite2 (fun e1 => ?_) (fun e1 => ?_)
        · refine ⟨_, _, _, 3, rfl, rfl, upd_same, rfl, rfl, 0, ?_⟩
          rw [upd_upd]
          rfl
        · refine ⟨_, .inl (SqL.of upd_same), _, rfl, ?_⟩
          refine ite2 (fun e1 => ?_) (fun e1 => ?_)
          · refine ⟨_, _, _, 3, rfl, rfl, upd_same, rfl, rfl, 0, ?_⟩
            rw [upd_upd]
            rfl
          · exact ⟨rfl, m, rfl⟩
      · rintro σ' H' ⟨rfl, m', rfl⟩
        exact fin m'
    · refine ⟨_, .inl (SqL.of upd_same), _, rfl, .inl (.inr ⟨by decide, by decide⟩), ?_⟩
      refine ⟨_, .inl (SqL.of upd_same), _, rfl, .inl (.inr ⟨by decide, by decide⟩), (by decide), ?_⟩
      have f0 := Int.emod_nonneg (v * 48271 + (c + 1) * 69621) (by decide : (2147483647 : Int) ≠ 0)
      have f1 := Int.emod_lt_of_pos (v * 48271 + (c + 1) * 69621) (by decide : (0 : Int) < 2147483647)
      refine ⟨.inl (.inl ⟨by omega, by omega⟩), ?_⟩
      refine ⟨_, .inl (SqL.of upd_same), _, rfl, .inl (.inr ⟨by decide, by decide⟩), (by decide), ?_⟩
      have fin : ∀ (m' x : Int), Q (.int (x % many)) (upd H st (.lst (stv scr i v m' (c + 1)))) := fun m' x => q _ _ (Int.emod_nonneg _ (by omega)) (Int.emod_lt_of_pos _ hm0) (DrAt.upd hst hscr hl h0)
      refine ⟨fun σ' H' => (∃ a b, σ' = [some (.ref st), some (.int many), some (.int a), some (.int b), none, none]) ∧ ∃ m', H' = upd H st (.lst (stv scr i v m' (c + 1))), ?_, ?_⟩
      · refine ⟨_, .inl (SqL.of upd_same), _, rfl, ?_⟩
        refine ite2 (fun e1 => ?_) (fun e1 => ?_)
        · refine ⟨_, _, _, 3, rfl, rfl, upd_same, rfl, ⟨_, _, rfl⟩, 0, ?_⟩
          rw [upd_upd]
          rfl
        · exact ⟨⟨_, _, rfl⟩, m, rfl⟩
      · rintro σ' H' ⟨⟨a, b, rfl⟩, m', rfl⟩
        refine ⟨.inl (.inr ⟨by decide, by decide⟩), (by decide), hm0, ?_⟩
        exact fin m' _

/-! ### _law_state -/
def sp__law_state (K : PySem.W.Frag) : Sp := fun vs H Q _ => ∃ (a : Addr) (ns : List Int), vs = [.ref a] ∧ SqL K H a (ns.map V.int) ∧ ns.length ≤ 63 ∧
  ∀ (H' : Hp) (st scr : Addr), Same H H' → H st = none → H scr = none → DrAt H' st scr → Q (.ref st) H'
theorem len__law_state {vs : List V} {H : Hp} {Q : VK} {E : XK} (h : sp__law_state K vs H Q E) : vs.length = 1 := by
  obtain ⟨_, _, rfl, _⟩ := h
  rfl
theorem ok__law_state {f : Addr} {fd : FuncData} (F : Fun K "_law_state" "_law_state" s__law_state f fd) (T : Gs K mg t_BOUND t_LETTERS t_LONGEST_NAME a_RESERVED a_SIGNS a_BadName a_BadNumber a_BadSign a_Condition a_ElseputError a_UnknownField) : FnOk P w K mg base CX0 1 f fd ["_law_script"] (sp__law_state K) := by
  refine F.ok sc__law_state (fun vs H Q E h => len__law_state h) (fun cdv A outer s H vs Q E hr h => ?_)
  obtain ⟨a, ns, rfl, hS, hl, q⟩ := h
  refine ⟨_, (pss_one (ps_ret (pe_lst (pa_cons (pe_callTy (listK K) (by rfl) T.z_list (by decide +kernel) (pa_cons (v_ 0) pa_nil)) (pa_cons pe_int (pa_cons pe_int (pa_cons pe_int (pa_cons pe_int pa_nil)))))))), ?_⟩
  refine ⟨_, _, rfl, .inl hS, fun l nl => ?_⟩
  refine ⟨(by show 5 ≤ sizeLine; decide), fun st nst => ?_⟩
  have hne := new_ne nst
  refine q _ st l ((same_new nl).trans (same_new nst)) (free_new nst) nl ⟨ns, 0, 0, 0, 0, upd_same, ?_, hl, by omega⟩
  rw [upd_ne hne.symm, upd_same]

/-! ### _law_pick -/
theorem at_list {α : Type} {xs : List α} {r : Int} (h0 : 0 ≤ r) (h1 : r < xs.length) : ∃ x, atI xs r = some x ∧ x ∈ xs := by
  have hi : r.toNat < xs.length := by omega
  refine ⟨xs[r.toNat], ?_, List.getElem_mem hi⟩
  have hq : atI xs ((r.toNat : Nat) : Int) = some xs[r.toNat] := atI_nat (List.getElem?_eq_getElem hi)
  rwa [show ((r.toNat : Nat) : Int) = r by omega] at hq
theorem at_str {z : Str} {r : Int} (h0 : 0 ≤ r) (h1 : r < z.length) : ∃ c, atI z.cps.toList r = some c ∧ c ∈ z.cps.toList := at_list h0 (by rw [len_cps]; exact h1)
theorem many_small {m : Int} (h0 : 0 < m) (h1 : m ≤ 1000000000) : m.natAbs < 2 ^ 200 := Nat.lt_of_le_of_lt (show m.natAbs ≤ 2 ^ 30 by omega) (Nat.pow_lt_pow_right (by decide) (by decide))
def sp__law_pick (K : PySem.W.Frag) : Sp := fun vs H Q _ => ∃ (st scr : Addr) (v : V), vs = [.ref st, v] ∧ DrAt H st scr ∧
  ((∃ z : Str, v = .str z ∧ 0 < z.length ∧ z.length ≤ 1000 ∧ ∀ (c : Nat) (l : List V), c ∈ z.cps.toList → DrAt (upd H st (.lst l)) st scr → Q (.str ⟨#[c]⟩) (upd H st (.lst l))) ∨
    ∃ (p : Addr) (xs : List V), v = .ref p ∧ H p = some (.lst xs) ∧ p ≠ st ∧ 0 < xs.length ∧ xs.length ≤ 1000 ∧ ∀ (x : V) (l : List V), x ∈ xs → DrAt (upd H st (.lst l)) st scr → Q x (upd H st (.lst l)))
theorem len__law_pick {vs : List V} {H : Hp} {Q : VK} {E : XK} (h : sp__law_pick K vs H Q E) : vs.length = 2 := by
  obtain ⟨_, _, _, rfl, _⟩ := h
  rfl
theorem ok__law_pick {f : Addr} {fd : FuncData} {f__law_draw : Addr} {fd__law_draw : FuncData} (F : Fun K "_law_pick" "_law_pick" s__law_pick f fd) (T : Gs K mg t_BOUND t_LETTERS t_LONGEST_NAME a_RESERVED a_SIGNS a_BadName a_BadNumber a_BadSign a_Condition a_ElseputError a_UnknownField) (c__law_draw : Cal P w K mg base CX0 1 "_law_draw" f__law_draw fd__law_draw ["_law_state_here", "_law_many"] (sp__law_draw K)) : FnOk P w K mg base CX0 2 f fd ["_law_state_here", "_law_row"] (sp__law_pick K) := by
  refine F.ok sc__law_pick (fun vs H Q E h => len__law_pick h) (fun cdv A outer s H vs Q E hr h => ?_)
  obtain ⟨st, scr, v, rfl, hd, h⟩ := h
  refine ⟨_, (pss_one (ps_ret (e_x K (v_ 1) (pe_call c__law_draw.G (hr.mono (by first | decide | omega)) rfl c__law_draw.m c__law_draw.kp c__law_draw.b .nil pass0 (pa_cons (v_ 0) (pa_cons (pe_callB (lenK K) (by rfl) T.z_len PySem.boot_len (pa_cons (v_ 1) pa_nil)) pa_nil)))))), ?_⟩
  rcases h with ⟨z, rfl, h0, h1, q⟩ | ⟨p, xs, rfl, hp, hne, h0, h1, q⟩
  · refine ⟨line_of (by omega), st, scr, _, rfl, hd, by omega, many_small (by omega) (by omega), fun r l r0 r1 hd' => ?_⟩
    obtain ⟨c, hc, hm⟩ := at_str r0 r1
    exact ⟨line_of (by omega), c, hc, q c l hm hd'⟩
  · refine .inl ⟨_, .inl (SqL.of hp), st, scr, _, rfl, hd, by omega, many_small (by omega) (by omega), fun r l r0 r1 hd' => ?_⟩
    obtain ⟨x, hx, hm⟩ := at_list r0 r1
    exact ⟨_, .inl (SqL.of (by rw [upd_ne hne]; exact hp)), x, hx, q x l hm hd'⟩

end
section
variable {P : Program} {w : World} {K : PySem.W.Frag} {mg : Str → Option Value} {base : Heap}
variable {t_BOUND t_LETTERS t_LONGEST_NAME : Tok} {a_RESERVED a_SIGNS a_BadName a_BadNumber a_BadSign a_Condition a_ElseputError a_UnknownField : Addr}
/-! ### _law_same -/
def sp__law_is_int (K : PySem.W.Frag) : Sp := fun vs H Q _ => ∃ i : Int, vs = [.int i] ∧ Q (.bl true) H
theorem len__law_is_int {vs : List V} {H : Hp} {Q : VK} {E : XK} (h : sp__law_is_int K vs H Q E) : vs.length = 1 := by
  obtain ⟨_, rfl, _⟩ := h
  rfl
theorem ok__law_is_int {f : Addr} {fd : FuncData} (F : Fun K "_law_is_int" "_law_is_int" s__law_is_int f fd) (T : Gs K mg t_BOUND t_LETTERS t_LONGEST_NAME a_RESERVED a_SIGNS a_BadName a_BadNumber a_BadSign a_Condition a_ElseputError a_UnknownField) : FnOk P w K mg base CX0 1 f fd ["_law_thing"] (sp__law_is_int K) := by
  refine F.ok sc__law_is_int (fun vs H Q E h => len__law_is_int h) (fun cdv A outer s H vs Q E hr h => ?_)
  obtain ⟨i, rfl, q⟩ := h
  refine ⟨_, (pss_one (ps_ret (pe_andM (pe_callB (isiK K) (by rfl) T.z_isinstance (by decide +kernel) (pa_cons (v_ 0) (pa_cons (pe_bltn (v := .ty "int") (u := .type "int") (by rfl) T.z_int (by decide +kernel) rfl) pa_nil))) (pe_one (pe_notM (pe_callB (isiK K) (by rfl) T.z_isinstance (by decide +kernel) (pa_cons (v_ 0) (pa_cons (pe_bltn (v := .ty "bool") (u := .type "bool") (by rfl) T.z_bool (by decide +kernel) rfl) pa_nil)))))))), ?_⟩
  refine ⟨_, _, _, _, true, rfl, .ty _, .base (.int i), kit_ty (by decide +kernel), ?_⟩
  exact ⟨_, _, _, _, false, rfl, .ty _, .base (.int i), kit_ty (by decide +kernel), q⟩
def SameV (H : Hp) : Nat → V → V → Prop
  | 0, _, _ => False
  | n + 1, x, y => (∃ i : Int, x = .int i ∧ y = .int i) ∨ (∃ z : Str, x = .str z ∧ y = .str z) ∨ (∃ (p q : Addr) (xs ys : List V), x = .ref p ∧ y = .ref q ∧ ((H p = some (.lst xs) ∧ H q = some (.lst ys)) ∨ (H p = some (.tup xs) ∧ H q = some (.tup ys))) ∧
      xs.length = ys.length ∧ ys.length ≤ 1000 ∧ ∀ (i : Nat) (a b : V), xs[i]? = some a → ys[i]? = some b → SameV H n a b) ∨
      (∃ (p q : Addr) (ks ls : Ct), x = .ref p ∧ y = .ref q ∧ H p = some (.dK ks) ∧ H q = some (.dK ls) ∧ ks.length = ls.length ∧ n ≠ 0 ∧ ∀ (i : Nat) (k : Key) (v : V), ls[i]? = some (k, v) → ∃ m : Int, valV ls k = some (.int m) ∧ valV ks k = some (.int m)) ∨ ∃ b : Bool, x = .bl b ∧ y = .bl b
def spSame (n : Nat) : Sp := fun vs H Q _ => ∃ x y : V, vs = [x, y] ∧ SameV H n x y ∧ Q (.bl true) H
theorem len_same {n : Nat} {vs : List V} {H : Hp} {Q : VK} {E : XK} (h : spSame n vs H Q E) : vs.length = 2 := by
  obtain ⟨_, _, rfl, _⟩ := h
  rfl
theorem same_step {n k : Nat} {f : Addr} {fd : FuncData} {f__law_is_int : Addr} {fd__law_is_int : FuncData} (F : Fun K "_law_same" "_law_same" s__law_same f fd) (T : Gs K mg t_BOUND t_LETTERS t_LONGEST_NAME a_RESERVED a_SIGNS a_BadName a_BadNumber a_BadSign a_Condition a_ElseputError a_UnknownField)
    (c__law_is_int : Cal P w K mg base CX0 1 "_law_is_int" f__law_is_int fd__law_is_int ["_law_thing"] (sp__law_is_int K)) (c__law_same : Cal P w K mg base CX0 k "_law_same" f fd ["_law_actual", "_law_due"] (spSame n)) (hk : 1 ≤ k) : FnOk P w K mg base CX0 (k + 1) f fd ["_law_actual", "_law_due"] (spSame (n + 1)) := by
  refine F.ok sc__law_same (fun vs H Q E h => len_same h) (fun cdv A outer s H vs Q E hr h => ?_)
  obtain ⟨x, y, rfl, h, q⟩ := h
  refine ⟨_, (pss_cons (ps_if (pt_c op_isM (v_ 1) pe_non) (pss_one (ps_ret (pe_c op_isM (v_ 0) pe_non))) pss_nil) (pss_cons (ps_if (pt_c op_isM (v_ 1) pe_bl) (pss_one (ps_ret (pe_c op_isM (v_ 0) pe_bl))) pss_nil) (pss_cons (ps_if (pt_c op_isM (v_ 1) pe_bl) (pss_one (ps_ret (pe_c op_isM (v_ 0) pe_bl))) pss_nil) (pss_cons (ps_if (pt_t K (pe_callB (isiK K) (by rfl) T.z_isinstance (by decide +kernel) (pa_cons (v_ 1) (pa_cons (pe_bltn (v := .ty "int") (u := .type "int") (by rfl) T.z_int (by decide +kernel) rfl) pa_nil)))) (pss_one (ps_ret (pe_andM (pe_call c__law_is_int.G (hr.mono (by first | decide | omega)) rfl c__law_is_int.m c__law_is_int.kp c__law_is_int.b .nil pass0 (pa_cons (v_ 0) pa_nil)) (pe_one (pe_c (eqK K hr.units) (v_ 0) (v_ 1)))))) pss_nil) (pss_cons (ps_if (pt_t K (pe_callB (isiK K) (by rfl) T.z_isinstance (by decide +kernel) (pa_cons (v_ 1) (pa_cons (pe_bltn (v := .ty "str") (u := .type "str") (by rfl) T.z_str (by decide +kernel) rfl) pa_nil)))) (pss_one (ps_ret (pe_andM (pe_callB (isiK K) (by rfl) T.z_isinstance (by decide +kernel) (pa_cons (v_ 0) (pa_cons (pe_bltn (v := .ty "str") (u := .type "str") (by rfl) T.z_str (by decide +kernel) rfl) pa_nil))) (pe_one (pe_c (eqK K hr.units) (v_ 0) (v_ 1)))))) pss_nil) (pss_cons (ps_if (pt_t K (pe_callB (isiK K) (by rfl) T.z_isinstance (by decide +kernel) (pa_cons (v_ 1) (pa_cons (pe_bltn (v := .ty "dict") (u := .type "dict") (by rfl) T.z_dict (by decide +kernel) rfl) pa_nil)))) (pss_cons (ps_if (PW.pt (pw_or (pt_not (pt_t K (pe_callB (isiK K) (by rfl) T.z_isinstance (by decide +kernel) (pa_cons (v_ 0) (pa_cons (pe_bltn (v := .ty "dict") (u := .type "dict") (by rfl) T.z_dict (by decide +kernel) rfl) pa_nil))))) (pw_or1 (pt_c (neK K hr.units) (pe_callB (lenK K) (by rfl) T.z_len PySem.boot_len (pa_cons (v_ 0) pa_nil)) (pe_callB (lenK K) (by rfl) T.z_len PySem.boot_len (pa_cons (v_ 1) pa_nil)))))) (pss_one (ps_ret pe_bl)) pss_nil) (pss_cons (ps_lock (ps_for PassesOwn.never rfl (pi_keys (v_ 1)) (pg_name (i := 3) sc__law_same.nd rfl (.inl rfl)) (pss_one (ps_if (PW.pt (pw_or (pt_cmp (pc_dnotin (hu_of hr) (v_ 3) (v_ 0))) (pw_or1 (pt_not (pt_t K (pe_call c__law_same.G (hr.mono (by first | decide | omega)) rfl c__law_same.m c__law_same.kp c__law_same.b .nil pass0 (pa_cons (pe_dget (hu_of hr) (v_ 0) (v_ 3) (fun _ _ => rfl)) (pa_cons (pe_dget (hu_of hr) (v_ 1) (v_ 3) (fun _ _ => rfl)) pa_nil)))))))) (pss_one (ps_ret pe_bl)) pss_nil)))) (pss_one (ps_ret pe_bl)))) pss_nil) (pss_cons (ps_if (PW.pt (pw_and (pt_t K (pe_callB (isiK K) (by rfl) T.z_isinstance (by decide +kernel) (pa_cons (v_ 1) (pa_cons (pe_bltn (v := .ty "list") (u := .type "list") (by rfl) T.z_list (by decide +kernel) rfl) pa_nil)))) (pw_and1 (pt_not (pt_t K (pe_callB (isiK K) (by rfl) T.z_isinstance (by decide +kernel) (pa_cons (v_ 0) (pa_cons (pe_bltn (v := .ty "list") (u := .type "list") (by rfl) T.z_list (by decide +kernel) rfl) pa_nil)))))))) (pss_one (ps_ret pe_bl)) pss_nil) (pss_cons (ps_if (PW.pt (pw_and (pt_t K (pe_callB (isiK K) (by rfl) T.z_isinstance (by decide +kernel) (pa_cons (v_ 1) (pa_cons (pe_bltn (v := .ty "tuple") (u := .type "tuple") (by rfl) T.z_tuple (by decide +kernel) rfl) pa_nil)))) (pw_and1 (pt_not (pt_t K (pe_callB (isiK K) (by rfl) T.z_isinstance (by decide +kernel) (pa_cons (v_ 0) (pa_cons (pe_bltn (v := .ty "tuple") (u := .type "tuple") (by rfl) T.z_tuple (by decide +kernel) rfl) pa_nil)))))))) (pss_one (ps_ret pe_bl)) pss_nil) (pss_cons (ps_if (pt_c (neK K hr.units) (pe_callB (lenK K) (by rfl) T.z_len PySem.boot_len (pa_cons (v_ 0) pa_nil)) (pe_callB (lenK K) (by rfl) T.z_len PySem.boot_len (pa_cons (v_ 1) pa_nil))) (pss_one (ps_ret pe_bl)) pss_nil) (pss_cons (ps_for PassesOwn.never rfl (pi_range1 rfl T.z_range (pa_cons (pe_callB (lenK K) (by rfl) T.z_len PySem.boot_len (pa_cons (v_ 1) pa_nil)) pa_nil)) (pg_name (i := 2) sc__law_same.nd rfl (.inl rfl)) (pss_one (ps_if (pt_not (pt_t K (pe_call c__law_same.G (hr.mono (by first | decide | omega)) rfl c__law_same.m c__law_same.kp c__law_same.b .nil pass0 (pa_cons (e_x K (v_ 0) (v_ 2)) (pa_cons (e_x K (v_ 1) (v_ 2)) pa_nil))))) (pss_one (ps_ret pe_bl)) pss_nil))) (pss_one (ps_ret pe_bl)))))))))))), ?_⟩
  rcases h with ⟨i, rfl, rfl⟩ | ⟨z, rfl, rfl⟩ | ⟨a, b, xs, ys, rfl, rfl, hh, hl, h1, hs⟩ | ⟨a, b, ks, ls, rfl, rfl, ha, hb, hl, hn, hs⟩ | ⟨b, rfl, rfl⟩
  · refine ⟨_, _, _, _, true, rfl, .ty _, .base (.int i), kit_ty (by decide +kernel), ?_⟩
    refine ⟨i, rfl, ?_⟩
    have e : decide (i = i) = true := decide_eq_true rfl
    rw [← e] at q
    exact q
  · refine ⟨_, _, _, _, false, rfl, .ty _, .base (.str z), kit_ty (by decide +kernel), ?_⟩
    refine ⟨_, _, _, _, true, rfl, .ty _, .base (.str z), kit_ty (by decide +kernel), ?_⟩
    refine ⟨_, _, _, _, true, rfl, .ty _, .base (.str z), kit_ty (by decide +kernel), ?_⟩
    have e : decide (z = z) = true := decide_eq_true rfl
    rw [← e] at q
    exact q
  · rcases hh with ⟨ha, hb⟩ | ⟨ha, hb⟩
    · have tb : TyX K H (.ref b) (.type "list") := .base (.lst hb)
      refine ⟨_, _, _, _, false, rfl, .ty _, tb, kit_ty (by decide +kernel), ?_⟩
      refine ⟨_, _, _, _, false, rfl, .ty _, tb, kit_ty (by decide +kernel), ?_⟩
      refine ⟨_, _, _, _, false, rfl, .ty _, tb, kit_ty (by decide +kernel), ?_⟩
      refine ⟨_, _, _, _, true, rfl, .ty _, tb, kit_ty (by decide +kernel), ?_⟩
      refine ⟨_, _, _, _, true, rfl, .ty _, .base (.lst ha), kit_ty (by decide +kernel), ?_⟩
      refine ⟨_, _, _, _, false, rfl, .ty _, tb, kit_ty (by decide +kernel), ?_⟩
      refine .inl ⟨_, .inl (SqL.of ha), .inl ⟨_, .inl (SqL.of hb), ?_⟩⟩
      refine ite2 (fun e => ?_) (fun _ => ?_)
      · exact absurd e (by rw [hl]; simp)
      refine .inl ⟨_, .inl (SqL.of hb), _, rfl, by omega, by omega, ?_⟩
      refine for_range (lo := 0) (n := ys.length) (fun i σ' H' => H' = H ∧ ∃ y, σ' = [some (.ref a), some (.ref b), y, none]) ⟨rfl, _, rfl⟩ ?_ ?_
      · rintro i σ' H' hi ⟨rfl, y, rfl⟩
        have ex := List.getElem?_eq_getElem (l := xs) (i := i) (by omega)
        have ey := List.getElem?_eq_getElem (l := ys) hi
        refine ⟨_, .inl (SqL.of ha), xs[i], ?_, _, .inl (SqL.of hb), ys[i], ?_, _, _, rfl, hs i _ _ ex ey, ?_⟩
        · rw [show (0 : Int) + i = ((i : Nat) : Int) by omega]
          exact atI_nat ex
        · rw [show (0 : Int) + i = ((i : Nat) : Int) by omega]
          exact atI_nat ey
        exact ⟨rfl, _, rfl⟩
      · rintro σ' H' ⟨rfl, y, rfl⟩
        exact q
    · have tb : TyX K H (.ref b) (.type "tuple") := .base (.tup hb)
      refine ⟨_, _, _, _, false, rfl, .ty _, tb, kit_ty (by decide +kernel), ?_⟩
      refine ⟨_, _, _, _, false, rfl, .ty _, tb, kit_ty (by decide +kernel), ?_⟩
      refine ⟨_, _, _, _, false, rfl, .ty _, tb, kit_ty (by decide +kernel), ?_⟩
      refine ⟨_, _, _, _, false, rfl, .ty _, tb, kit_ty (by decide +kernel), ?_⟩
      refine ⟨_, _, _, _, true, rfl, .ty _, tb, kit_ty (by decide +kernel), ?_⟩
      refine ⟨_, _, _, _, true, rfl, .ty _, .base (.tup ha), kit_ty (by decide +kernel), ?_⟩
      refine .inl ⟨_, .inr (SqT.of ha), .inl ⟨_, .inr (SqT.of hb), ?_⟩⟩
      refine ite2 (fun e => ?_) (fun _ => ?_)
      · exact absurd e (by rw [hl]; simp)
      refine .inl ⟨_, .inr (SqT.of hb), _, rfl, by omega, by omega, ?_⟩
      refine for_range (lo := 0) (n := ys.length) (fun i σ' H' => H' = H ∧ ∃ y, σ' = [some (.ref a), some (.ref b), y, none]) ⟨rfl, _, rfl⟩ ?_ ?_
      · rintro i σ' H' hi ⟨rfl, y, rfl⟩
        have ex := List.getElem?_eq_getElem (l := xs) (i := i) (by omega)
        have ey := List.getElem?_eq_getElem (l := ys) hi
        refine ⟨_, .inr (SqT.of ha), xs[i], ?_, _, .inr (SqT.of hb), ys[i], ?_, _, _, rfl, hs i _ _ ex ey, ?_⟩
        · rw [show (0 : Int) + i = ((i : Nat) : Int) by omega]
          exact atI_nat ex
        · rw [show (0 : Int) + i = ((i : Nat) : Int) by omega]
          exact atI_nat ey
        exact ⟨rfl, _, rfl⟩
      · rintro σ' H' ⟨rfl, y, rfl⟩
        exact q
  · have tb : TyX K H (.ref b) (.type "dict") := .base (.dK hb)
    refine ⟨_, _, _, _, false, rfl, .ty _, tb, kit_ty (by decide +kernel), ?_⟩
    refine ⟨_, _, _, _, false, rfl, .ty _, tb, kit_ty (by decide +kernel), ?_⟩
    refine ⟨_, _, _, _, true, rfl, .ty _, tb, kit_ty (by decide +kernel), ?_⟩
    refine ⟨_, _, _, _, true, rfl, .ty _, .base (.dK ha), kit_ty (by decide +kernel), ?_⟩
    refine .inr ⟨_, ha, .inr ⟨_, hb, ?_⟩⟩
    refine ite2 (fun e => absurd e (by rw [hl]; simp)) (fun _ => ?_)
    refine ⟨b, .dK ls, hb, True.intro, fun od => ?_⟩
    refine ⟨b, od, rfl, .inl ⟨ls, upd_same, ?_⟩⟩
    have rb : Rd (upd H b (.frz od (.dK ls))) b (.dK ls) := .inr ⟨od, upd_same⟩
    have ra : ∃ ks', ks' = ks ∧ Rd (upd H b (.frz od (.dK ls))) a (.dK ks') := by
      by_cases e : a = b
      · rw [e, hb] at ha
        cases ha
        exact ⟨_, rfl, e ▸ rb⟩
      · exact ⟨ks, rfl, .inl (by rw [upd_ne e]; exact ha)⟩
    obtain ⟨_, rfl, ra⟩ := ra
    refine for_it walk_keys (fun i σ' H' => H' = upd H b (.frz od (.dK ls)) ∧ ∃ y, σ' = [some (.ref a), some (.ref b), none, y]) ⟨rfl, _, rfl⟩ (fun i σ' H' _ h => by rw [h.1]; exact upd_same) ?_ ?_
    · rintro i x σ' H2 H3 hi ⟨rfl, y, rfl⟩ ⟨rfl, k, v, hk, rfl⟩
      obtain ⟨m, h1, h2⟩ := hs i k v hk
      have ga : DGet (upd H b (.frz od (.dK ls))) a (kV k) (some (.int m)) := .inl ⟨_, k, ra, rfl, h2.symm⟩
      have gb : DGet (upd H b (.frz od (.dK ls))) b (kV k) (some (.int m)) := .inl ⟨_, k, rb, rfl, h1.symm⟩
      refine ⟨a, _, rfl, ga, _, rfl, ?_⟩
      refine ⟨a, _, rfl, ga, b, _, rfl, gb, _, _, rfl, ?_, ?_⟩
      · cases n with
        | zero => exact absurd rfl hn
        | succ n => exact .inl ⟨m, rfl, rfl⟩
      · exact ⟨rfl, _, rfl⟩
    · rintro σ' H2 ⟨rfl, y, rfl⟩
      refine ⟨upd_same, ?_⟩
      rw [upd_upd, upd_id hb]
      exact q
  · cases b <;> exact q
theorem same_all {f : Addr} {fd : FuncData} {f__law_is_int : Addr} {fd__law_is_int : FuncData} (F : Fun K "_law_same" "_law_same" s__law_same f fd) (T : Gs K mg t_BOUND t_LETTERS t_LONGEST_NAME a_RESERVED a_SIGNS a_BadName a_BadNumber a_BadSign a_Condition a_ElseputError a_UnknownField)
    (c__law_is_int : Cal P w K mg base CX0 1 "_law_is_int" f__law_is_int fd__law_is_int ["_law_thing"] (sp__law_is_int K)) (b : Binds K fd ["_law_actual", "_law_due"] []) (kp : PySem.W.keepIn K (.ref f) = true) (m : mg "_law_same" = some (.ref f)) :
    ∀ n : Nat, FnOk P w K mg base CX0 (n + 2) f fd ["_law_actual", "_law_due"] (spSame n)
  | 0 => ⟨fun _ _ _ _ h => len_same h, by
    intro A outer s H args us vs Q E _ _ _ _ h
    obtain ⟨_, _, _, h, _⟩ := h
    exact False.elim h⟩
  | n + 1 => same_step F T c__law_is_int ⟨same_all F T c__law_is_int b kp m n, b, kp, m⟩ (by omega)
def sp__law_same (K : PySem.W.Frag) : Sp := spSame 4
theorem ok__law_same {f : Addr} {fd : FuncData} {f__law_is_int : Addr} {fd__law_is_int : FuncData} (F : Fun K "_law_same" "_law_same" s__law_same f fd) (T : Gs K mg t_BOUND t_LETTERS t_LONGEST_NAME a_RESERVED a_SIGNS a_BadName a_BadNumber a_BadSign a_Condition a_ElseputError a_UnknownField)
    (c__law_is_int : Cal P w K mg base CX0 1 "_law_is_int" f__law_is_int fd__law_is_int ["_law_thing"] (sp__law_is_int K)) (b : Binds K fd ["_law_actual", "_law_due"] []) (kp : PySem.W.keepIn K (.ref f) = true) (m : mg "_law_same" = some (.ref f)) :
    FnOk P w K mg base CX0 6 f fd ["_law_actual", "_law_due"] (sp__law_same K) := same_all F T c__law_is_int b kp m 4

end
section
variable {P : Program} {w : World} {K : PySem.W.Frag} {mg : Str → Option Value} {base : Heap}
variable {t_BOUND t_LETTERS t_LONGEST_NAME : Tok} {a_RESERVED a_SIGNS a_BadName a_BadNumber a_BadSign a_Condition a_ElseputError a_UnknownField : Addr}
def Bd (i : Int) : Prop := -1000000000000000000000000000000 ≤ i ∧ i ≤ 1000000000000000000000000000000
def sp__law_number (K : PySem.W.Frag) : Sp := fun vs H Q _ => ∃ (st scr : Addr), vs = [.ref st] ∧ DrAt H st scr ∧ ∀ (l : List V) (i : Int), Bd i → DrAt (upd H st (.lst l)) st scr → Q (.int i) (upd H st (.lst l))
theorem len__law_number {vs : List V} {H : Hp} {Q : VK} {E : XK} (h : sp__law_number K vs H Q E) : vs.length = 1 := by
  obtain ⟨_, _, rfl, _⟩ := h
  rfl
theorem p30 : (10 : Int) ^ (30 : Int).toNat = 1000000000000000000000000000000 := by decide +kernel
theorem ok__law_number {f : Addr} {fd : FuncData} {f__law_draw : Addr} {fd__law_draw : FuncData} (F : Fun K "_law_number" "_law_number" s__law_number f fd) (T : Gs K mg t_BOUND t_LETTERS t_LONGEST_NAME a_RESERVED a_SIGNS a_BadName a_BadNumber a_BadSign a_Condition a_ElseputError a_UnknownField) (c__law_draw : Cal P w K mg base CX0 1 "_law_draw" f__law_draw fd__law_draw ["_law_state_here", "_law_many"] (sp__law_draw K)) : FnOk P w K mg base CX0 2 f fd ["_law_state_here"] (sp__law_number K) := by
  refine F.ok sc__law_number (fun vs H Q E h => len__law_number h) (fun cdv A outer s H vs Q E hr h => ?_)
  obtain ⟨st, scr, rfl, hd, q⟩ := h
  refine ⟨_, (pss_cons (ps_set (i := 1) sc__law_number.nd rfl (.inl rfl) (pe_call c__law_draw.G (hr.mono (by first | decide | omega)) rfl c__law_draw.m c__law_draw.kp c__law_draw.b .nil pass0 (pa_cons (v_ 0) (pa_cons pe_int pa_nil)))) (pss_cons (ps_if (pt_c op_ltM (v_ 1) pe_int) (pss_one (ps_ret (pe_op op_subM (pe_call c__law_draw.G (hr.mono (by first | decide | omega)) rfl c__law_draw.m c__law_draw.kp c__law_draw.b .nil pass0 (pa_cons (v_ 0) (pa_cons pe_int pa_nil))) pe_int))) pss_nil) (pss_cons (ps_if (pt_c (eqK K hr.units) (v_ 1) pe_int) (pss_one (ps_ret (pe_op op_subM (pe_call c__law_draw.G (hr.mono (by first | decide | omega)) rfl c__law_draw.m c__law_draw.kp c__law_draw.b .nil pass0 (pa_cons (v_ 0) (pa_cons pe_int pa_nil))) pe_int))) pss_nil) (pss_cons (ps_if (pt_c (eqK K hr.units) (v_ 1) pe_int) (pss_one (ps_ret (pe_op op_subM (pe_op op_powM pe_int pe_int) (pe_call c__law_draw.G (hr.mono (by first | decide | omega)) rfl c__law_draw.m c__law_draw.kp c__law_draw.b .nil pass0 (pa_cons (v_ 0) (pa_cons pe_int pa_nil)))))) pss_nil) (pss_cons (ps_if (pt_c (eqK K hr.units) (v_ 1) pe_int) (pss_one (ps_ret (pe_op op_subM (pe_call c__law_draw.G (hr.mono (by first | decide | omega)) rfl c__law_draw.m c__law_draw.kp c__law_draw.b .nil pass0 (pa_cons (v_ 0) (pa_cons pe_int pa_nil))) (pe_op op_powM pe_int pe_int)))) pss_nil) (pss_one (ps_ret (pe_op op_subM (pe_call c__law_draw.G (hr.mono (by first | decide | omega)) rfl c__law_draw.m c__law_draw.kp c__law_draw.b .nil pass0 (pa_cons (v_ 0) (pa_cons (pe_op (addK K) (pe_op op_mulSM pe_int (pe_op op_powM pe_int pe_int)) pe_int) pa_nil))) (pe_op op_powM pe_int pe_int))))))))), ?_⟩
  refine ⟨st, scr, _, rfl, hd, by decide, many_small (by decide) (by decide), fun kd l _ _ hd1 => ?_⟩
  have q : ∀ (l2 : List V) (i : Int), Bd i → DrAt (upd (upd H st (.lst l)) st (.lst l2)) st scr → Q (.int i) (upd (upd H st (.lst l)) st (.lst l2)) := fun l2 i b d => by
    rw [upd_upd] at d ⊢
    exact q l2 i b d
  generalize upd H st (.lst l) = H1 at hd1 q ⊢
  refine ite2 (fun e => ?_) (fun e => ?_)
  · refine ⟨st, scr, _, rfl, hd1, by decide, many_small (by decide) (by decide), fun r l2 r0 r1 hd2 => ?_⟩
    exact q l2 _ (by unfold Bd; omega) hd2
  refine ite2 (fun e => ?_) (fun e => ?_)
  · refine ⟨st, scr, _, rfl, hd1, by decide, many_small (by decide) (by decide), fun r l2 r0 r1 hd2 => ?_⟩
    exact q l2 _ (by unfold Bd; omega) hd2
  refine ite2 (fun e => ?_) (fun e => ?_)
  · refine ⟨(by unfold CPow; decide), ?_⟩
    refine ⟨st, scr, _, rfl, hd1, by decide, many_small (by decide) (by decide), fun r l2 r0 r1 hd2 => ?_⟩
    rw [p30]
    exact q l2 _ (by unfold Bd; omega) hd2
  refine ite2 (fun e => ?_) (fun e => ?_)
  · refine ⟨st, scr, _, rfl, hd1, by decide, many_small (by decide) (by decide), fun r l2 r0 r1 hd2 => ?_⟩
    refine ⟨(by unfold CPow; decide), ?_⟩
    rw [p30]
    exact q l2 _ (by unfold Bd; omega) hd2
  refine ⟨(by unfold CPow; decide), ?_⟩
  rw [p30]
  refine ⟨.inl (.inl ⟨by decide, by decide⟩), ?_⟩
  refine ⟨st, scr, _, rfl, hd1, by decide, by decide +kernel, fun r l2 r0 r1 hd2 => ?_⟩
  refine ⟨(by unfold CPow; decide), ?_⟩
  rw [p30]
  exact q l2 _ (by unfold Bd; omega) hd2
/-! ### names -/
/-- small letters, of which the one at p is c -/
def Lt (z : Str) (p c : Nat) : Prop := (∀ d ∈ z.cps.toList, d ∈ letters.cps.toList) ∧ z.cps.toList[p]? = some c ∧ z.length ≤ 12
theorem Lt.name {z : Str} {p c : Nat} (h : Lt z p c) (hr : inV (.str z) resv = false) : isName z = true := by
  unfold isName
  have h0 : ¬ ((z.length : Int) < 1) := by
    have := (List.getElem?_eq_some_iff.mp h.2.1).1
    rw [len_cps] at this
    omega
  have h1 : ¬ ((12 : Int) < z.length) := by have := h.2.2; omega
  rw [decide_eq_false h0, decide_eq_false h1, hr]
  show (z.cps.toList.all fun c => decide (c ∈ letters.cps.toList)) = true
  exact List.all_eq_true.mpr fun d hd => decide_eq_true (h.1 d hd)
theorem resv_strs : resv = (["always", "never", "and", "or", "not", "when", "add", "set", "change", "tell", "refuse", "take", "look", "free", "lock", "keep", "keys", "fields"] : List Str).map V.str := rfl
theorem resv_z {z : Str} (h : inV (.str z) resv = true) : inV (.str (z ++ "z")) resv = false ∧ z.length ≤ 7 := by
  rw [resv_strs, inV_str, decide_eq_true_iff] at h
  have all : (["always", "never", "and", "or", "not", "when", "add", "set", "change", "tell", "refuse", "take", "look", "free", "lock", "keep", "keys", "fields"] : List Str).all (fun z => !inV (.str (z ++ "z")) resv && decide (z.length ≤ 7)) = true := by decide +kernel
  have := List.all_eq_true.mp all z h
  rw [Bool.and_eq_true, Bool.not_eq_true', decide_eq_true_iff] at this
  exact this
end
section
variable {P : Program} {w : World} {K : PySem.W.Frag} {mg : Str → Option Value} {base : Heap}
variable {t_BOUND t_LETTERS t_LONGEST_NAME : Tok} {a_RESERVED a_SIGNS a_BadName a_BadNumber a_BadSign a_Condition a_ElseputError a_UnknownField : Addr}
theorem cutS_take (z : Str) {k : Nat} : (cutS z none (some (k : Int))).cps.toList = z.cps.toList.take k := by
  unfold cutS
  rw [List.toList_toArray, HT.sIx_nat, HT.sIx_none, List.drop_zero, Nat.sub_zero, List.take_eq_take_iff, len_cps]
  omega
theorem cutS_drop (z : Str) {k : Nat} : (cutS z (some (k : Int)) none).cps.toList = z.cps.toList.drop k := by
  unfold cutS
  rw [List.toList_toArray, HT.sIx_nat, HT.sIx_none]
  by_cases h : k ≤ z.length
  · rw [Nat.min_eq_left h, List.take_of_length_le (by rw [List.length_drop, len_cps]; omega)]
  · rw [Nat.min_eq_right (by omega), List.drop_of_length_le (by rw [len_cps]; omega), List.drop_of_length_le (by rw [len_cps]; omega), List.take_nil]
theorem letter_at {i : Int} (h0 : 0 ≤ i) (h1 : i < 26) : atI letters.cps.toList i = some (97 + i.toNat) := by
  have all : ∀ j : Fin 26, letters.cps.toList[j.val]? = some (97 + j.val) := by decide +kernel
  have := all ⟨i.toNat, by omega⟩
  have hq := atI_nat this
  rwa [show ((i.toNat : Nat) : Int) = i by omega] at hq
theorem letter_mem {i : Nat} (h1 : i < 26) : (97 + i) ∈ letters.cps.toList := by
  have all : ∀ j : Fin 26, (97 + j.val) ∈ letters.cps.toList := by decide +kernel
  exact all ⟨i, h1⟩
theorem one_len (c : Nat) : (⟨#[c]⟩ : Str).length = 1 := rfl
theorem one_cps (c : Nat) : (⟨#[c]⟩ : Str).cps.toList = [c] := rfl
theorem Lt.z {z : Str} {p c : Nat} (h : Lt z p c) (hl : z.length ≤ 7) : Lt (z ++ "z") p c := by
  refine ⟨fun d hd => ?_, ?_, ?_⟩
  · rw [cps_add] at hd
    rcases List.mem_append.mp hd with e | e
    · exact h.1 d e
    · have : d = 122 := by simpa using (show d ∈ [122] from e)
      rw [this]
      decide +kernel
  · rw [cps_add, List.getElem?_append_left (List.getElem?_eq_some_iff.mp h.2.1).1]
    exact h.2.1
  · rw [len_add]
    show z.length + 1 ≤ 12
    omega
def sp__law_names (K : PySem.W.Frag) : Sp := fun vs H Q _ => ∃ (st scr : Addr) (n : Nat), vs = [.ref st, .int n] ∧ DrAt H st scr ∧ n ≤ 26 ∧
  ∀ (H' : Hp) (p : Addr) (zs : List Str), Bt st H H' → DrAt H' st scr → H p = none → H' p = some (.lst (zs.map V.str)) → zs.length = n → (∀ z ∈ zs, isName z = true ∧ z.length ≤ 12) → zs.Nodup → Q (.ref p) H'
theorem len__law_names {vs : List V} {H : Hp} {Q : VK} {E : XK} (h : sp__law_names K vs H Q E) : vs.length = 2 := by
  obtain ⟨_, _, _, rfl, _⟩ := h
  rfl
theorem ok__law_names {f : Addr} {fd : FuncData} {f__law_draw : Addr} {fd__law_draw : FuncData} (F : Fun K "_law_names" "_law_names" s__law_names f fd) (T : Gs K mg t_BOUND t_LETTERS t_LONGEST_NAME a_RESERVED a_SIGNS a_BadName a_BadNumber a_BadSign a_Condition a_ElseputError a_UnknownField) (c__law_draw : Cal P w K mg base CX0 1 "_law_draw" f__law_draw fd__law_draw ["_law_state_here", "_law_many"] (sp__law_draw K)) : FnOk P w K mg base CX0 2 f fd ["_law_state_here", "_law_many"] (sp__law_names K) := by
  refine F.ok sc__law_names (fun vs H Q E h => len__law_names h) (fun cdv A outer s H vs Q E hr h => ?_)
  obtain ⟨st, scr, n, rfl, hd, hn, q⟩ := h
  refine ⟨_, (pss_cons (ps_set (i := 2) sc__law_names.nd rfl (.inl rfl) pe_str) (pss_cons (ps_set (i := 3) sc__law_names.nd rfl (.inl rfl) (pe_call c__law_draw.G (hr.mono (by first | decide | omega)) rfl c__law_draw.m c__law_draw.kp c__law_draw.b .nil pass0 (pa_cons (v_ 0) (pa_cons pe_int pa_nil)))) (pss_cons (ps_set (i := 4) sc__law_names.nd rfl (.inl rfl) (pe_call c__law_draw.G (hr.mono (by first | decide | omega)) rfl c__law_draw.m c__law_draw.kp c__law_draw.b .nil pass0 (pa_cons (v_ 0) (pa_cons pe_int pa_nil)))) (pss_cons (ps_set (i := 5) sc__law_names.nd rfl (.inl rfl) (pe_call c__law_draw.G (hr.mono (by first | decide | omega)) rfl c__law_draw.m c__law_draw.kp c__law_draw.b .nil pass0 (pa_cons (v_ 0) (pa_cons pe_int pa_nil)))) (pss_cons (ps_set (i := 6) sc__law_names.nd rfl (.inl rfl) (pe_call c__law_draw.G (hr.mono (by first | decide | omega)) rfl c__law_draw.m c__law_draw.kp c__law_draw.b .nil pass0 (pa_cons (v_ 0) (pa_cons pe_int pa_nil)))) (pss_cons (ps_set (i := 7) sc__law_names.nd rfl (.inl rfl) pe_str) (pss_cons (ps_for PassesOwn.never rfl (pi_range1 rfl T.z_range (pa_cons pe_int pa_nil)) (pg_name (i := 8) sc__law_names.nd rfl (.inl rfl)) (pss_cons (ps_set (i := 7) sc__law_names.nd rfl (.inl rfl) (pe_op (addK K) (v_ 7) (e_x K (v_ 2) (pe_op op_modM (pe_callTy call_intM (by rfl) T.z_int (by decide +kernel) (pa_cons (v_ 5) pa_nil)) pe_int)))) (pss_one (ps_set (i := 5) sc__law_names.nd rfl (.inl rfl) (pe_op op_divM (pe_callTy call_intM (by rfl) T.z_int (by decide +kernel) (pa_cons (v_ 5) pa_nil)) pe_int))))) (pss_cons (ps_set (i := 9) sc__law_names.nd rfl (.inl rfl) (pe_lst (pa_cons pe_str (pa_cons pe_str (pa_cons pe_str (pa_cons pe_str (pa_cons pe_str (pa_cons pe_str (pa_cons pe_str (pa_cons pe_str (pa_cons pe_str (pa_cons pe_str (pa_cons pe_str (pa_cons pe_str pa_nil)))))))))))))) (pss_cons (ps_set (i := 9) sc__law_names.nd rfl (.inl rfl) (pe_op (addK K) (v_ 9) (pe_lst (pa_cons pe_str (pa_cons pe_str (pa_cons pe_str (pa_cons pe_str (pa_cons pe_str (pa_cons pe_str pa_nil))))))))) (pss_cons (ps_set (i := 10) sc__law_names.nd rfl (.inl rfl) (pe_lst pa_nil)) (pss_cons (ps_for PassesOwn.never rfl (pi_range1 rfl T.z_range (pa_cons (v_ 1) pa_nil)) (pg_name (i := 8) sc__law_names.nd rfl (.inl rfl)) (pss_cons (ps_set (i := 11) sc__law_names.nd rfl (.inl rfl) (e_x K (v_ 2) (pe_op op_modM (pe_callTy call_intM (by rfl) T.z_int (by decide +kernel) (pa_cons (pe_op (addK K) (v_ 4) (pe_op op_mulSM pe_int (v_ 8))) pa_nil)) pe_int))) (Evl.pss_cut (ps_if (pt_c (eqK K hr.units) (v_ 3) pe_int) (pss_one (ps_set (i := 11) sc__law_names.nd rfl (.inl rfl) (pe_op (addK K) (pe_op (addK K) (pe_slice (slK K) (v_ 7) po_none (po_some (v_ 6))) (v_ 11)) (pe_slice (slK K) (v_ 7) (po_some (v_ 6)) po_none)))) pss_nil) (Evl.pss_cut (ps_if (pt_c (eqK K hr.units) (v_ 3) pe_int) (pss_one (ps_set (i := 11) sc__law_names.nd rfl (.inl rfl) (pe_op (addK K) (v_ 11) (pe_slice (slK K) (v_ 7) po_none (po_some (pe_op op_modM (pe_callTy call_intM (by rfl) T.z_int (by decide +kernel) (pa_cons (pe_op (addK K) (pe_op op_mulSM pe_int (v_ 8)) (v_ 6)) pa_nil)) pe_int)))))) pss_nil) (Evl.pss_cut (ps_if (pt_c (eqK K hr.units) (v_ 3) pe_int) (pss_one (ps_set (i := 11) sc__law_names.nd rfl (.inl rfl) (pe_op (addK K) (pe_op (addK K) (pe_slice (slK K) (v_ 7) po_none (po_some pe_int)) (v_ 11)) (v_ 7)))) pss_nil) (Evl.pss_cut (ps_if (pt_c (inK K) (v_ 11) (v_ 9)) (pss_one (ps_set (i := 11) sc__law_names.nd rfl (.inl rfl) (pe_op (addK K) (v_ 11) pe_str))) pss_nil) (pss_one (ps_expr (pe_bm PySem.F.plainAttrs_list PySem.F.slot_list_append PySem.F.type_list_append mt_append (v_ 10) (pa_cons (v_ 11) pa_nil)))))))))) (pss_one (ps_ret (v_ 10)))))))))))))), ?_⟩
  refine ⟨st, scr, _, rfl, hd, by decide, many_small (by decide) (by decide), fun sty l1 s0 s1 hd1 => ?_⟩
  have b1 : Bt st H (upd H st (.lst l1)) := Bt.st
  generalize upd H st (.lst l1) = H1 at hd1 b1 ⊢
  refine ⟨st, scr, _, rfl, hd1, by decide, many_small (by decide) (by decide), fun sh l2 h0 h1 hd2 => ?_⟩
  have b2 := b1.trans (Bt.st (st := st) (o := .lst l2))
  generalize upd H1 st (.lst l2) = H2 at hd2 b2 ⊢
  refine ⟨st, scr, _, rfl, hd2, by decide, many_small (by decide) (by decide), fun cd l3 c0 c1 hd3 => ?_⟩
  have b3 := b2.trans (Bt.st (st := st) (o := .lst l3))
  generalize upd H2 st (.lst l3) = H3 at hd3 b3 ⊢
  refine ⟨st, scr, _, rfl, hd3, by decide, many_small (by decide) (by decide), fun spt l4 p0 p1 hd4 => ?_⟩
  have b4 := b3.trans (Bt.st (st := st) (o := .lst l4))
  generalize upd H3 st (.lst l4) = H4 at hd4 b4 ⊢
  refine ⟨6, rfl, by decide, by decide, ?_⟩
  refine for_range (lo := 0) (n := 6) (fun i σ' H' => ∃ (z : Str) (code : Int) (y : Option V), σ' = [some (.ref st), some (.int n), some (.str letters), some (.int sty), some (.int sh), some (.int code), some (.int spt), some (.str z), y, none, none, none] ∧ H' = H4 ∧ z.length = i ∧ ∀ d ∈ z.cps.toList, d ∈ letters.cps.toList) ?_ ?_ ?_
  · exact ⟨_, _, _, rfl, rfl, rfl, fun _ h => nomatch h⟩
  · rintro i σ' H' hi ⟨z, code, y, rfl, rfl, hz, ha⟩
    refine ⟨by decide, ?_⟩
    have r0 := Int.emod_nonneg code (by decide : (26 : Int) ≠ 0)
    have r1 := Int.emod_lt_of_pos code (by decide : (0 : Int) < 26)
    refine ⟨line_of (by decide +kernel), _, letter_at r0 r1, line_of (by rw [one_len]; omega), ?_⟩
    refine ⟨.inl ⟨by decide, by decide⟩, ?_⟩
    refine ⟨_, _, _, rfl, rfl, by rw [len_add, one_len, hz], fun d hd => ?_⟩
    rw [cps_add, one_cps] at hd
    rcases List.mem_append.mp hd with h | h
    · exact ha d h
    · rw [List.mem_singleton.mp h]
      exact letter_mem (by omega)
  rintro σ' H' ⟨bs, code, y, rfl, rfl, hz, ha⟩
  have hbl : bs.cps.toList.length = 6 := by rw [len_cps]; exact hz
  refine ⟨(by show 12 ≤ sizeLine; decide), fun o no => ?_⟩
  refine ⟨(by show 6 ≤ sizeLine; decide), fun p np => ?_⟩
  have hpo := new_ne np
  refine .inl ⟨_, _, (by rw [upd_ne hpo.symm, upd_same]), upd_same, (by show 18 ≤ sizeLine; decide), fun rv nrv => ?_⟩
  have sm := ((same_new (o := .lst [.str "always", .str "never", .str "and", .str "or", .str "not", .str "when", .str "add", .str "set", .str "change", .str "tell", .str "refuse", .str "take"]) no).trans (same_new (o := .lst [.str "look", .str "free", .str "lock", .str "keep", .str "keys", .str "fields"]) np)).trans (same_new (o := .lst resv) nrv)
  generalize hH5 : upd _ rv _ = H5
  have hrv : H5 rv = some (.lst resv) := by rw [← hH5]; exact upd_same
  have hd5 : DrAt H5 st scr := by rw [← hH5]; exact hd4.new sm
  have b5 : Bt st H H5 := by rw [← hH5]; exact b4.trans (Bt.same (st := st) sm)
  clear hH5
  refine ⟨Nat.zero_le _, fun L nL => ?_⟩
  generalize hH6 : upd _ L _ = H6
  have hrv2 : H6 rv = some (.lst resv) := by rw [← hH6]; exact same_new nL _ _ hrv
  have hd6 : DrAt H6 st scr := by rw [← hH6]; exact hd5.new (same_new nL)
  have b6 : Bt st H H6 := by rw [← hH6]; exact b5.trans (Bt.same (st := st) (same_new nL))
  have L0 : H L = none := b5.free (hd5.ne_new nL) nL
  have eL : H6 L = some (.lst []) := by rw [← hH6]; exact upd_same
  have Ls : L ≠ st := hd5.ne_new nL
  have Lc : L ≠ scr := hd5.ne_scr nL
  have Lrv : rv ≠ L := ne_of_none hrv nL
  clear hH6
  refine ⟨n, rfl, by omega, by omega, ?_⟩
  obtain ⟨ps, hps⟩ : ∃ ps : Nat, ps = if sty = 1 then spt.toNat else if sty = 3 then 5 else 0 := ⟨_, rfl⟩
  refine for_range (lo := 0) (n := n) (fun i σ' H' => ∃ (y z : Option V) (zs : List Str), σ' = [some (.ref st), some (.int n), some (.str letters), some (.int sty), some (.int sh), some (.int code), some (.int spt), some (.str bs), y, some (.ref rv), some (.ref L), z] ∧ H' = upd H6 L (.lst (zs.map V.str)) ∧ zs.length = i ∧
    ∀ (j : Nat) (z : Str), zs[j]? = some z → Lt z ps (97 + ((sh + 7 * (j : Int)) % 26).toNat) ∧ inV (.str z) resv = false) ?_ ?_ ?_
  · exact ⟨_, _, [], rfl, (upd_id eL).symm, rfl, fun j z h => nomatch h⟩
  · rintro i σ' H' hi ⟨y, z, zs, rfl, rfl, hzl, hzs⟩
    have r0 := Int.emod_nonneg (sh + 7 * (0 + (i : Int))) (by decide : (26 : Int) ≠ 0)
    have r1 := Int.emod_lt_of_pos (sh + 7 * (0 + (i : Int))) (by decide : (0 : Int) < 26)
    refine ⟨.inl (.inl ⟨by decide, by decide⟩), by decide, ?_⟩
    refine ⟨line_of (by decide +kernel), _, letter_at r0 r1, ?_⟩
    have hcm := letter_mem (i := ((sh + 7 * (0 + (i : Int))) % 26).toNat) (by omega)
    rw [Int.zero_add] at hcm r0 r1 ⊢
    generalize hcc : 97 + ((sh + 7 * (i : Int)) % 26).toNat = ch at hcm ⊢
    have hrv3 : (upd H6 L (.lst (zs.map V.str))) rv = some (.lst resv) := by rw [upd_ne Lrv]; exact hrv2
    refine ⟨fun σ' H' => ∃ w : Str, σ' = [some (.ref st), some (.int n), some (.str letters), some (.int sty), some (.int sh), some (.int code), some (.int spt), some (.str bs), some (.int i), some (.ref rv), some (.ref L), some (.str w)] ∧ H' = upd H6 L (.lst (zs.map V.str)) ∧ (sty = 1 → Lt w ps ch) ∧ (sty ≠ 1 → w = ⟨#[ch]⟩), ?_, ?_⟩
    · refine ite2 (fun e => ?_) (fun e => ?_)
      · have e : sty = 1 := of_decide_eq_true e
        have l1 := cutS_length bs none (some spt)
        have l2 := cutS_length bs (some spt) none
        have e1 := cutS_take bs (k := spt.toNat)
        have e2 := cutS_drop bs (k := spt.toNat)
        rw [show ((spt.toNat : Nat) : Int) = spt by omega] at e1 e2
        refine ⟨_, rfl, line_of (by omega), line_of (by rw [one_len]; omega), _, rfl, line_of (by omega), line_of (by rw [len_add, one_len]; omega), ?_⟩
        refine ⟨_, rfl, rfl, fun _ => ⟨fun d hd => ?_, ?_, ?_⟩, fun h => absurd e h⟩
        · rw [cps_add, cps_add, e1, e2, one_cps] at hd
          rcases List.mem_append.mp hd with h | h
          · rcases List.mem_append.mp h with h | h
            · exact ha d (List.mem_of_mem_take h)
            · rw [List.mem_singleton.mp h]; exact hcm
          · exact ha d (List.mem_of_mem_drop h)
        · have hps1 : ps = spt.toNat := by rw [hps, if_pos e]
          rw [cps_add, cps_add, e1, e2, one_cps, hps1, List.append_assoc, List.getElem?_append_right (by rw [List.length_take]; omega), List.length_take, hbl, Nat.min_eq_left (by omega), Nat.sub_self]
          rfl
        · rw [len_add, len_add, ← len_cps (cutS bs none (some spt)), ← len_cps (cutS bs (some spt) none), e1, e2, one_len, List.length_take, List.length_drop]
          omega
      · have e : ¬ sty = 1 := of_decide_eq_false (Bool.eq_false_iff.mpr e)
        exact ⟨_, rfl, rfl, fun h => absurd h e, fun _ => rfl⟩
    rintro σ' H' ⟨w, rfl, rfl, g1, g2⟩
    refine ⟨fun σ' H' => ∃ w : Str, σ' = [some (.ref st), some (.int n), some (.str letters), some (.int sty), some (.int sh), some (.int code), some (.int spt), some (.str bs), some (.int i), some (.ref rv), some (.ref L), some (.str w)] ∧ H' = upd H6 L (.lst (zs.map V.str)) ∧ (sty ≠ 3 → Lt w ps ch) ∧ (sty = 3 → w = ⟨#[ch]⟩), ?_, ?_⟩
    · refine ite2 (fun e => ?_) (fun e => ?_)
      · have e : sty = 2 := of_decide_eq_true e
        have hw := g2 (by omega)
        subst hw
        have r2 := Int.emod_nonneg (3 * (i : Int) + spt) (by decide : (7 : Int) ≠ 0)
        have e1 := cutS_take bs (k := ((3 * (i : Int) + spt) % 7).toNat)
        rw [show ((((3 * (i : Int) + spt) % 7).toNat : Nat) : Int) = (3 * (i : Int) + spt) % 7 by omega] at e1
        have l1 := cutS_length bs none (some ((3 * (i : Int) + spt) % 7))
        refine ⟨.inl (.inl ⟨by decide, by decide⟩), by decide, _, rfl, line_of (by omega), line_of (by rw [one_len]; omega), ?_⟩
        refine ⟨_, rfl, rfl, fun _ => ⟨fun d hd => ?_, ?_, ?_⟩, fun h => absurd h (by omega)⟩
        · rw [cps_add, e1, one_cps] at hd
          rcases List.mem_append.mp hd with h | h
          · rw [List.mem_singleton.mp h]; exact hcm
          · exact ha d (List.mem_of_mem_take h)
        · have hps1 : ps = 0 := by rw [hps, if_neg (by omega), if_neg (by omega)]
          rw [cps_add, one_cps, hps1]
          rfl
        · rw [len_add, one_len]
          omega
      · have e : ¬ sty = 2 := of_decide_eq_false (Bool.eq_false_iff.mpr e)
        refine ⟨w, rfl, rfl, fun h3 => ?_, fun h3 => g2 (by omega)⟩
        by_cases h1 : sty = 1
        · exact g1 h1
        · have hw := g2 h1
          subst hw
          refine ⟨fun d hd => ?_, ?_, by rw [one_len]; decide⟩
          · rw [List.mem_singleton.mp hd]; exact hcm
          · have hps1 : ps = 0 := by rw [hps, if_neg h1, if_neg h3]
            rw [hps1]
            rfl
    rintro σ' H' ⟨w, rfl, rfl, g1, g2⟩
    refine ⟨fun σ' H' => ∃ w : Str, σ' = [some (.ref st), some (.int n), some (.str letters), some (.int sty), some (.int sh), some (.int code), some (.int spt), some (.str bs), some (.int i), some (.ref rv), some (.ref L), some (.str w)] ∧ H' = upd H6 L (.lst (zs.map V.str)) ∧ Lt w ps ch, ?_, ?_⟩
    · refine ite2 (fun e => ?_) (fun e => ?_)
      · have e : sty = 3 := of_decide_eq_true e
        have hw := g2 e
        subst hw
        have e1 := cutS_take bs (k := 5)
        have l1 := cutS_length bs none (some 5)
        refine ⟨_, rfl, line_of (by omega), line_of (by rw [one_len]; omega), line_of (by rw [len_add, one_len]; omega), ?_⟩
        refine ⟨_, rfl, rfl, fun d hd => ?_, ?_, ?_⟩
        · rw [cps_add, cps_add, show (cutS bs none (some (5 : Int))).cps.toList = bs.cps.toList.take 5 from e1, one_cps] at hd
          rcases List.mem_append.mp hd with h | h
          · rcases List.mem_append.mp h with h | h
            · exact ha d (List.mem_of_mem_take h)
            · rw [List.mem_singleton.mp h]; exact hcm
          · exact ha d h
        · have hps1 : ps = 5 := by rw [hps, if_neg (by omega), if_pos e]
          rw [cps_add, cps_add, show (cutS bs none (some (5 : Int))).cps.toList = bs.cps.toList.take 5 from e1, one_cps, hps1, List.append_assoc, List.getElem?_append_right (by rw [List.length_take]; omega), List.length_take, hbl]
          rfl
        · rw [len_add, len_add, ← len_cps (cutS bs none (some (5 : Int))), show (cutS bs none (some (5 : Int))).cps.toList = bs.cps.toList.take 5 from e1, one_len, List.length_take]
          omega
      · have e : ¬ sty = 3 := of_decide_eq_false (Bool.eq_false_iff.mpr e)
        exact ⟨w, rfl, rfl, g1 e⟩
    rintro σ' H' ⟨w, rfl, rfl, g1⟩
    refine ⟨fun σ' H' => ∃ w : Str, σ' = [some (.ref st), some (.int n), some (.str letters), some (.int sty), some (.int sh), some (.int code), some (.int spt), some (.str bs), some (.int i), some (.ref rv), some (.ref L), some (.str w)] ∧ H' = upd H6 L (.lst (zs.map V.str)) ∧ Lt w ps ch ∧ inV (.str w) resv = false, ?_, ?_⟩
    · refine ⟨_, .inl (SqL.of hrv3), rfl, rfl, ?_⟩
      refine ite2 (fun e => ?_) (fun e => ?_)
      · have e : inV (.str w) resv = true := e
        obtain ⟨z1, z2⟩ := resv_z e
        exact ⟨line_of (by show w.length + 1 ≤ _; omega), _, rfl, rfl, g1.z z2, z1⟩
      · exact ⟨w, rfl, rfl, g1, Bool.eq_false_iff.mpr e⟩
    rintro σ' H' ⟨w, rfl, rfl, g1, gr⟩
    refine ⟨.inl ⟨rfl, _, SqL.of upd_same⟩, L, _, _, rfl, rfl, upd_same, line_lt (by rw [List.length_map]; omega), ?_⟩
    refine ⟨_, _, zs ++ [w], rfl, ?_, by rw [List.length_append, hzl]; rfl, fun j z hj => ?_⟩
    · rw [upd_upd, List.map_append]
      rfl
    · by_cases h : j < zs.length
      · rw [List.getElem?_append_left h] at hj
        exact hzs j z hj
      · rw [List.getElem?_append_right (by omega)] at hj
        have hj0 : j - zs.length = 0 := by
          have := (List.getElem?_eq_some_iff.mp hj).1
          rw [List.length_singleton] at this
          omega
        rw [hj0] at hj
        cases hj
        rw [show j = i by omega, hcc]
        exact ⟨g1, gr⟩
  · rintro σ' H' ⟨y, z, zs, rfl, rfl, hzl, hzs⟩
    refine q _ L zs ?_ (hd6.at Ls Lc) L0 upd_same (by omega) (fun z hz => ?_) ?_
    · intro b o nb hb
      rw [upd_ne (ne_of_none hb L0)]
      exact b6 b o nb hb
    · obtain ⟨j, hj, e⟩ := List.getElem_of_mem hz
      obtain ⟨h1, h2⟩ := hzs j z (by rw [List.getElem?_eq_getElem hj, e])
      exact ⟨h1.name h2, h1.2.2⟩
    · show List.Pairwise (· ≠ ·) zs
      rw [List.pairwise_iff_getElem]
      intro i j hi hj hij e
      have ej : zs[j]? = some zs[j] := List.getElem?_eq_getElem hj
      have ei : zs[i]? = some zs[j] := by rw [← e]; exact List.getElem?_eq_getElem hi
      obtain ⟨h1, _⟩ := hzs i _ ei
      obtain ⟨h2, _⟩ := hzs j _ ej
      have := h1.2.1.symm.trans h2.2.1
      have := Option.some.inj this
      omega
end
section
variable {P : Program} {w : World} {K : PySem.W.Frag} {mg : Str → Option Value} {base : Heap}
variable {t_BOUND t_LETTERS t_LONGEST_NAME : Tok} {a_RESERVED a_SIGNS a_BadName a_BadNumber a_BadSign a_Condition a_ElseputError a_UnknownField : Addr}
def sp__law_reserved (K : PySem.W.Frag) : Sp := fun vs H Q _ => vs = [] ∧ ∀ (H' : Hp) (r : Addr), Same H H' → H r = none → H' r = some (.lst resv) → Q (.ref r) H'
theorem len__law_reserved {vs : List V} {H : Hp} {Q : VK} {E : XK} (h : sp__law_reserved K vs H Q E) : vs.length = 0 := by
  obtain ⟨rfl, _⟩ := h
  rfl
theorem ok__law_reserved {f : Addr} {fd : FuncData} (F : Fun K "_law_reserved" "_law_reserved" s__law_reserved f fd) (T : Gs K mg t_BOUND t_LETTERS t_LONGEST_NAME a_RESERVED a_SIGNS a_BadName a_BadNumber a_BadSign a_Condition a_ElseputError a_UnknownField) : FnOk P w K mg base CX0 1 f fd [] (sp__law_reserved K) := by
  refine F.ok sc__law_reserved (fun vs H Q E h => len__law_reserved h) (fun cdv A outer s H vs Q E hr h => ?_)
  obtain ⟨rfl, q⟩ := h
  refine ⟨_, (pss_cons (ps_set (i := 0) sc__law_reserved.nd rfl (.inl rfl) (pe_lst (pa_cons pe_str (pa_cons pe_str (pa_cons pe_str (pa_cons pe_str (pa_cons pe_str (pa_cons pe_str (pa_cons pe_str (pa_cons pe_str (pa_cons pe_str (pa_cons pe_str (pa_cons pe_str (pa_cons pe_str pa_nil)))))))))))))) (pss_one (ps_ret (pe_op (addK K) (v_ 0) (pe_lst (pa_cons pe_str (pa_cons pe_str (pa_cons pe_str (pa_cons pe_str (pa_cons pe_str (pa_cons pe_str pa_nil))))))))))), ?_⟩
  refine ⟨(by show 12 ≤ sizeLine; decide), fun o no => ?_⟩
  refine ⟨(by show 6 ≤ sizeLine; decide), fun p np => ?_⟩
  have hpo := new_ne np
  refine .inl ⟨_, _, (by rw [upd_ne hpo.symm, upd_same]), upd_same, (by show 18 ≤ sizeLine; decide), fun rv nrv => ?_⟩
  exact q _ rv (((same_new no).trans (same_new np)).trans (same_new nrv)) (free_new (free_new nrv)) upd_same
abbrev others : Str := " !\"#$&'()*+,-./0123456789:;<=>?@ABCDEFGHIJKLMNOPQRSTUVWXYZ[\\]^_`{|}~"
theorem others_bad : ∀ c ∈ others.cps.toList, c ∉ letters.cps.toList ∧ c < 16 ^ 8 := by decide +kernel
theorem others_len : 0 < others.length ∧ others.length ≤ 1000 := by decide +kernel
theorem resv_asc : ∀ z ∈ (["always", "never", "and", "or", "not", "when", "add", "set", "change", "tell", "refuse", "take", "look", "free", "lock", "keep", "keys", "fields"] : List Str), inV (.str z) resv = true ∧ z.length ≤ 12 ∧ ∀ c ∈ z.cps.toList, c < 16 ^ 8 := by decide +kernel
theorem not_name_resv {z : Str} (h : inV (.str z) resv = true) : isName z = false := by
  cases e : isName z with
  | false => rfl
  | true =>
    have := (isName_mem e).2.2.2
    rw [h] at this
    cases this
def sp__law_bad_name (K : PySem.W.Frag) : Sp := fun vs H Q _ => ∃ (st scr : Addr) (z : Str) (k : Int), vs = [.ref st, .str z, .int k] ∧ DrAt H st scr ∧ isName z = true ∧
  ∀ (H' : Hp) (w : Str), Bt st H H' → DrAt H' st scr → isName w = false → w.length ≤ 30 → Asc w → Q (.str w) H'
theorem len__law_bad_name {vs : List V} {H : Hp} {Q : VK} {E : XK} (h : sp__law_bad_name K vs H Q E) : vs.length = 3 := by
  obtain ⟨_, _, _, _, rfl, _⟩ := h
  rfl
theorem ok__law_bad_name {f : Addr} {fd : FuncData} {f__law_pick : Addr} {fd__law_pick : FuncData} {f__law_draw : Addr} {fd__law_draw : FuncData} {f__law_reserved : Addr} {fd__law_reserved : FuncData} (F : Fun K "_law_bad_name" "_law_bad_name" s__law_bad_name f fd) (T : Gs K mg t_BOUND t_LETTERS t_LONGEST_NAME a_RESERVED a_SIGNS a_BadName a_BadNumber a_BadSign a_Condition a_ElseputError a_UnknownField) (c__law_pick : Cal P w K mg base CX0 2 "_law_pick" f__law_pick fd__law_pick ["_law_state_here", "_law_row"] (sp__law_pick K)) (c__law_draw : Cal P w K mg base CX0 1 "_law_draw" f__law_draw fd__law_draw ["_law_state_here", "_law_many"] (sp__law_draw K)) (c__law_reserved : Cal P w K mg base CX0 1 "_law_reserved" f__law_reserved fd__law_reserved [] (sp__law_reserved K)) : FnOk P w K mg base CX0 3 f fd ["_law_state_here", "_law_name", "_law_kind"] (sp__law_bad_name K) := by
  refine F.ok sc__law_bad_name (fun vs H Q E h => len__law_bad_name h) (fun cdv A outer s H vs Q E hr h => ?_)
  obtain ⟨st, scr, z, k, rfl, hd, hz, q⟩ := h
  obtain ⟨zm, z1, z12, zr⟩ := isName_mem hz
  have za := isName_asc hz
  refine ⟨_, (pss_cons (ps_set (i := 3) sc__law_bad_name.nd rfl (.inl rfl) pe_str) (pss_cons (ps_if (pt_c (eqK K hr.units) (v_ 2) pe_int) (pss_one (ps_ret (pe_call c__law_pick.G (hr.mono (by first | decide | omega)) rfl c__law_pick.m c__law_pick.kp c__law_pick.b .nil pass0 (pa_cons (v_ 0) (pa_cons (pe_call0 c__law_reserved.G (hr.mono (by first | decide | omega)) rfl c__law_reserved.m c__law_reserved.kp c__law_reserved.b .nil pass0) pa_nil))))) pss_nil) (pss_cons (ps_if (pt_c (eqK K hr.units) (v_ 2) pe_int) (pss_one (ps_ret (pe_slice (slK K) (pe_op (addK K) (v_ 1) pe_str) po_none (po_some pe_int)))) pss_nil) (pss_cons (ps_if (pt_c (eqK K hr.units) (v_ 2) pe_int) (pss_cons (ps_set (i := 4) sc__law_bad_name.nd rfl (.inl rfl) (pe_call c__law_draw.G (hr.mono (by first | decide | omega)) rfl c__law_draw.m c__law_draw.kp c__law_draw.b .nil pass0 (pa_cons (v_ 0) (pa_cons (pe_op (addK K) (pe_callB (lenK K) (by rfl) T.z_len PySem.boot_len (pa_cons (v_ 1) pa_nil)) pe_int) pa_nil)))) (pss_one (ps_ret (pe_op (addK K) (pe_op (addK K) (pe_slice (slK K) (v_ 1) po_none (po_some (v_ 4))) (pe_call c__law_pick.G (hr.mono (by first | decide | omega)) rfl c__law_pick.m c__law_pick.kp c__law_pick.b .nil pass0 (pa_cons (v_ 0) (pa_cons (v_ 3) pa_nil)))) (pe_slice (slK K) (v_ 1) (po_some (v_ 4)) po_none))))) pss_nil) (pss_one (ps_ret pe_str)))))), ?_⟩
  refine ite2 (fun e => ?_) (fun e => ?_)
  · refine ⟨rfl, fun H1 r s1 nr hr => ?_⟩
    refine ⟨st, scr, _, rfl, hd.new s1, .inr ⟨r, _, rfl, hr, hd.ne_new nr, by decide, by decide, fun x l hx hd2 => ?_⟩⟩
    rw [resv_strs] at hx
    obtain ⟨w, hw, rfl⟩ := List.mem_map.mp hx
    obtain ⟨w1, w2, w3⟩ := resv_asc w hw
    exact q _ w ((Bt.same s1).trans Bt.st) hd2 (not_name_resv w1) (by omega) w3
  refine ite2 (fun e => ?_) (fun e => ?_)
  · have zl : (Str.ofString "abcdefghijklm").length = 13 := by decide +kernel
    have e1 := cutS_take (z ++ "abcdefghijklm") (k := 13)
    have l1 := cutS_length (z ++ "abcdefghijklm") none (some 13)
    have la := len_add z (Str.ofString "abcdefghijklm")
    refine ⟨line_of (by omega), _, rfl, line_of (by rw [len_add]; omega), ?_⟩
    have lw : (cutS (z ++ "abcdefghijklm") none (some ((13 : Nat) : Int))).length = 13 := by
      rw [← len_cps, e1, List.length_take, len_cps, la]
      omega
    refine q H _ (Bt.refl st H) hd ?_ (by show (cutS (z ++ "abcdefghijklm") none (some ((13 : Nat) : Int))).length ≤ 30; omega) ?_
    · show isName (cutS (z ++ "abcdefghijklm") none (some ((13 : Nat) : Int))) = false
      cases e : isName (cutS (z ++ "abcdefghijklm") none (some ((13 : Nat) : Int))) with
      | false => rfl
      | true =>
        have := (isName_mem e).2.2.1
        omega
    · intro c hc
      have hc : c ∈ (cutS (z ++ "abcdefghijklm") none (some ((13 : Nat) : Int))).cps.toList := hc
      rw [e1, cps_add] at hc
      have hc := List.mem_of_mem_take hc
      rcases List.mem_append.mp hc with h | h
      · exact za c h
      · have : ∀ c ∈ (Str.ofString "abcdefghijklm").cps.toList, c < 16 ^ 8 := by decide +kernel
        exact this c h
  refine ite2 (fun e => ?_) (fun e => ?_)
  · refine ⟨line_of (by omega), ?_⟩
    refine ⟨st, scr, _, rfl, hd, by omega, many_small (by omega) (by omega), fun sp l s0 s1 hd1 => ?_⟩
    have b1 : Bt st H (upd H st (.lst l)) := Bt.st
    generalize upd H st (.lst l) = H1 at hd1 b1 ⊢
    have e1 := cutS_take z (k := sp.toNat)
    have e2 := cutS_drop z (k := sp.toNat)
    rw [show ((sp.toNat : Nat) : Int) = sp by omega] at e1 e2
    have l1 := cutS_length z none (some sp)
    have l2 := cutS_length z (some sp) none
    refine ⟨_, rfl, line_of (by omega), ?_⟩
    refine ⟨st, scr, _, rfl, hd1, .inl ⟨others, rfl, others_len.1, others_len.2, fun c l hc hd2 => ?_⟩⟩
    refine ⟨line_of (by rw [one_len]; omega), _, rfl, line_of (by omega), line_of (by rw [len_add, one_len]; omega), ?_⟩
    refine q _ _ (b1.trans Bt.st) hd2 ?_ (by rw [len_add, len_add, one_len]; omega) ?_
    · cases e : isName (cutS z none (some sp) ++ ⟨#[c]⟩ ++ cutS z (some sp) none) with
      | false => rfl
      | true =>
        refine absurd ((isName_mem e).1 c ?_) (others_bad c hc).1
        rw [cps_add, cps_add, one_cps]
        exact List.mem_append_left _ (List.mem_append_right _ (List.mem_singleton.mpr rfl))
    · intro d hd
      rw [cps_add, cps_add, e1, e2, one_cps] at hd
      rcases List.mem_append.mp hd with h | h
      · rcases List.mem_append.mp h with h | h
        · exact za d (List.mem_of_mem_take h)
        · rw [List.mem_singleton.mp h]
          exact (others_bad c hc).2
      · exact za d (List.mem_of_mem_drop h)
  · exact q H _ (Bt.refl st H) hd (by decide +kernel) (by decide) (fun c hc => nomatch hc)
theorem p59 : (10 : Int) ^ (59 : Int).toNat = 100000000000000000000000000000000000000000000000000000000000 := by decide +kernel
theorem inB_out {i : Int} (h : i < -1000000000000000000000000000000 ∨ 1000000000000000000000000000000 < i) : inB i = false := by
  unfold inB
  rcases h with h | h
  · rw [decide_eq_false (by omega : ¬ -1000000000000000000000000000000 ≤ i)]
    rfl
  · rw [decide_eq_false (by omega : ¬ i ≤ 1000000000000000000000000000000), Bool.and_false]
def sp__law_bad_number (K : PySem.W.Frag) : Sp := fun vs H Q _ => ∃ (st scr : Addr), vs = [.ref st] ∧ DrAt H st scr ∧
  ∀ (H' : Hp) (i : Int), Bt st H H' → DrAt H' st scr → (i < -1000000000000000000000000000000 ∨ 1000000000000000000000000000000 < i) → i.natAbs < 2 ^ 200 → Q (.int i) H'
theorem len__law_bad_number {vs : List V} {H : Hp} {Q : VK} {E : XK} (h : sp__law_bad_number K vs H Q E) : vs.length = 1 := by
  obtain ⟨_, _, rfl, _⟩ := h
  rfl
theorem ok__law_bad_number {f : Addr} {fd : FuncData} {f__law_draw : Addr} {fd__law_draw : FuncData} (F : Fun K "_law_bad_number" "_law_bad_number" s__law_bad_number f fd) (T : Gs K mg t_BOUND t_LETTERS t_LONGEST_NAME a_RESERVED a_SIGNS a_BadName a_BadNumber a_BadSign a_Condition a_ElseputError a_UnknownField) (c__law_draw : Cal P w K mg base CX0 1 "_law_draw" f__law_draw fd__law_draw ["_law_state_here", "_law_many"] (sp__law_draw K)) : FnOk P w K mg base CX0 2 f fd ["_law_state_here"] (sp__law_bad_number K) := by
  refine F.ok sc__law_bad_number (fun vs H Q E h => len__law_bad_number h) (fun cdv A outer s H vs Q E hr h => ?_)
  obtain ⟨st, scr, rfl, hd, q⟩ := h
  refine ⟨_, (pss_cons (ps_set (i := 1) sc__law_bad_number.nd rfl (.inl rfl) (pe_op (addK K) (pe_op (addK K) (pe_op op_powM pe_int pe_int) pe_int) (pe_call c__law_draw.G (hr.mono (by first | decide | omega)) rfl c__law_draw.m c__law_draw.kp c__law_draw.b .nil pass0 (pa_cons (v_ 0) (pa_cons pe_int pa_nil))))) (Evl.pss_cut (ps_if (pt_c (eqK K hr.units) (pe_call c__law_draw.G (hr.mono (by first | decide | omega)) rfl c__law_draw.m c__law_draw.kp c__law_draw.b .nil pass0 (pa_cons (v_ 0) (pa_cons pe_int pa_nil))) pe_int) (pss_one (ps_set (i := 1) sc__law_bad_number.nd rfl (.inl rfl) (pe_op (addK K) (pe_op op_powM pe_int pe_int) (pe_call c__law_draw.G (hr.mono (by first | decide | omega)) rfl c__law_draw.m c__law_draw.kp c__law_draw.b .nil pass0 (pa_cons (v_ 0) (pa_cons (pe_op op_powM pe_int pe_int) pa_nil)))))) pss_nil) (pss_cons (ps_if (pt_c (eqK K hr.units) (pe_call c__law_draw.G (hr.mono (by first | decide | omega)) rfl c__law_draw.m c__law_draw.kp c__law_draw.b .nil pass0 (pa_cons (v_ 0) (pa_cons pe_int pa_nil))) pe_int) (pss_one (ps_ret (pe_un un_negM (v_ 1)))) pss_nil) (pss_one (ps_ret (v_ 1)))))), ?_⟩
  have e200 : (2 : Nat) ^ 200 = 1606938044258990275541962092341162602522202993782792835301376 := by decide +kernel
  refine ⟨(by unfold CPow; decide), ?_⟩
  rw [p30]
  refine ⟨st, scr, _, rfl, hd, by decide, many_small (by decide) (by decide), fun r l r0 r1 hd1 => ?_⟩
  have b1 : Bt st H (upd H st (.lst l)) := Bt.st
  generalize upd H st (.lst l) = H1 at hd1 b1 ⊢
  refine ⟨fun σ' H' => ∃ i : Int, σ' = [some (.ref st), some (.int i)] ∧ Bt st H H' ∧ DrAt H' st scr ∧ 1000000000000000000000000000000 < i ∧ i.natAbs < 2 ^ 200, ?_, ?_⟩
  · refine ⟨st, scr, _, rfl, hd1, by decide, many_small (by decide) (by decide), fun r2 l2 r20 r21 hd2 => ?_⟩
    have b2 := b1.trans (Bt.st (st := st) (o := .lst l2))
    generalize upd H1 st (.lst l2) = H2 at hd2 b2 ⊢
    refine ite2 (fun e => ?_) (fun e => ?_)
    · refine ⟨(by unfold CPow; decide), ?_⟩
      rw [p59]
      refine ⟨(by unfold CPow; decide), ?_⟩
      rw [p59]
      refine ⟨st, scr, _, rfl, hd2, by decide, by decide +kernel, fun r3 l3 r30 r31 hd3 => ?_⟩
      exact ⟨_, rfl, b2.trans Bt.st, hd3, by omega, by rw [e200]; omega⟩
    · exact ⟨_, rfl, b2, hd2, by omega, by rw [e200]; omega⟩
  rintro σ' H2 ⟨i, rfl, b2, hd2, i0, i1⟩
  refine ⟨st, scr, _, rfl, hd2, by decide, many_small (by decide) (by decide), fun r2 l2 r20 r21 hd3 => ?_⟩
  refine ite2 (fun e => ?_) (fun e => ?_)
  · exact q _ _ (b2.trans Bt.st) hd3 (.inl (by omega)) (by rw [Int.natAbs_neg]; exact i1)
  · exact q _ _ (b2.trans Bt.st) hd3 (.inr i0) i1
end
section
variable {P : Program} {w : World} {K : PySem.W.Frag} {mg : Str → Option Value} {base : Heap}
variable {t_BOUND t_LETTERS t_LONGEST_NAME : Tok} {a_RESERVED a_SIGNS a_BadName a_BadNumber a_BadSign a_Condition a_ElseputError a_UnknownField : Addr}
/-! ### comparisons -/
def cmpB (s : Str) (x n : Int) : Bool :=
  if s = "<" then decide (x < n) else if s = "<=" then decide (x ≤ n) else if s = "==" then decide (x = n) else if s = "!=" then !decide (x = n) else if s = ">=" then decide (x ≥ n) else decide (x > n)
def sp_sign_holds (K : PySem.W.Frag) : Sp := fun vs H Q _ => ∃ (x n : Int) (s : Str), vs = [.int x, .str s, .int n] ∧ Q (.bl (cmpB s x n)) H
theorem len_sign_holds {vs : List V} {H : Hp} {Q : VK} {E : XK} (h : sp_sign_holds K vs H Q E) : vs.length = 3 := by
  obtain ⟨_, _, _, rfl, _⟩ := h
  rfl
theorem ok_sign_holds {f : Addr} {fd : FuncData} (F : Fun K "sign_holds" "sign_holds" s_sign_holds f fd) (T : Gs K mg t_BOUND t_LETTERS t_LONGEST_NAME a_RESERVED a_SIGNS a_BadName a_BadNumber a_BadSign a_Condition a_ElseputError a_UnknownField) : FnOk P w K mg base CX0 1 f fd ["left", "sign", "right"] (sp_sign_holds K) := by
  refine F.ok sc_sign_holds (fun vs H Q E h => len_sign_holds h) (fun cdv A outer s H vs Q E hr h => ?_)
  obtain ⟨x, n, s, rfl, q⟩ := h
  refine ⟨_, (pss_cons (ps_if (pt_c (eqK K hr.units) (v_ 1) pe_str) (pss_one (ps_ret (pe_c op_ltM (v_ 0) (v_ 2)))) pss_nil) (pss_cons (ps_if (pt_c (eqK K hr.units) (v_ 1) pe_str) (pss_one (ps_ret (pe_c op_leM (v_ 0) (v_ 2)))) pss_nil) (pss_cons (ps_if (pt_c (eqK K hr.units) (v_ 1) pe_str) (pss_one (ps_ret (pe_c (eqK K hr.units) (v_ 0) (v_ 2)))) pss_nil) (pss_cons (ps_if (pt_c (eqK K hr.units) (v_ 1) pe_str) (pss_one (ps_ret (pe_c (neK K hr.units) (v_ 0) (v_ 2)))) pss_nil) (pss_cons (ps_if (pt_c (eqK K hr.units) (v_ 1) pe_str) (pss_one (ps_ret (pe_c op_geM (v_ 0) (v_ 2)))) pss_nil) (pss_one (ps_ret (pe_c op_gtM (v_ 0) (v_ 2))))))))), ?_⟩
  unfold cmpB at q
  refine ite2 (fun e => ?_) (fun e => ?_)
  · rw [if_pos (of_decide_eq_true e)] at q
    exact q
  rw [if_neg (of_decide_eq_false (Bool.eq_false_iff.mpr e))] at q
  clear e
  refine ite2 (fun e => ?_) (fun e => ?_)
  · rw [if_pos (of_decide_eq_true e)] at q
    exact q
  rw [if_neg (of_decide_eq_false (Bool.eq_false_iff.mpr e))] at q
  clear e
  refine ite2 (fun e => ?_) (fun e => ?_)
  · rw [if_pos (of_decide_eq_true e)] at q
    exact q
  rw [if_neg (of_decide_eq_false (Bool.eq_false_iff.mpr e))] at q
  clear e
  refine ite2 (fun e => ?_) (fun e => ?_)
  · rw [if_pos (of_decide_eq_true e)] at q
    exact q
  rw [if_neg (of_decide_eq_false (Bool.eq_false_iff.mpr e))] at q
  clear e
  refine ite2 (fun e => ?_) (fun e => ?_)
  · rw [if_pos (of_decide_eq_true e)] at q
    exact q
  rw [if_neg (of_decide_eq_false (Bool.eq_false_iff.mpr e))] at q
  exact q
/-- the tree of a comparison -/
def TcAt (H : Hp) (t : Addr) (f s : Str) (n : Int) : Prop := H t = some (.tup [.str "compare", .str f, .str s, .int n])
def sp_holds (K : PySem.W.Frag) : Sp := fun vs H Q _ => ∃ (t d : Addr) (c : Ct) (f s : Str) (x n : Int), vs = [.ref t, .ref d] ∧ TcAt H t f s n ∧ H d = some (.dK c) ∧ valV c (kS f) = some (.int x) ∧ Q (.bl (cmpB s x n)) H
theorem len_holds {vs : List V} {H : Hp} {Q : VK} {E : XK} (h : sp_holds K vs H Q E) : vs.length = 2 := by
  obtain ⟨_, _, _, _, _, _, _, rfl, _⟩ := h
  rfl
theorem ok_holds {f : Addr} {fd : FuncData} {f_sign_holds : Addr} {fd_sign_holds : FuncData} (F : Fun K "holds" "holds" s_holds f fd) (T : Gs K mg t_BOUND t_LETTERS t_LONGEST_NAME a_RESERVED a_SIGNS a_BadName a_BadNumber a_BadSign a_Condition a_ElseputError a_UnknownField) (c_sign_holds : Cal P w K mg base CX0 1 "sign_holds" f_sign_holds fd_sign_holds ["left", "sign", "right"] (sp_sign_holds K)) : FnOk P w K mg base CX0 2 f fd ["tree", "content"] (sp_holds K) := by
  refine F.ok sc_holds (fun vs H Q E h => len_holds h) (fun cdv A outer s H vs Q E hr h => ?_)
  obtain ⟨t, d, c, f, s, x, n, rfl, ht, hd, hv, q⟩ := h
  refine ⟨_, (pss_cons (ps_set (i := 2) sc_holds.nd rfl (.inl rfl) (e_x K (v_ 0) pe_int)) (pss_cons (ps_if (pt_c (eqK K hr.units) (v_ 2) pe_str) (pss_one (ps_ret (pe_call c_sign_holds.G (hr.mono (by first | decide | omega)) rfl c_sign_holds.m c_sign_holds.kp c_sign_holds.b .nil pass0 (pa_cons (pe_dget (hu_of hr) (v_ 1) (e_x K (v_ 0) pe_int) (fun _ _ => rfl)) (pa_cons (e_x K (v_ 0) pe_int) (pa_cons (e_x K (v_ 0) pe_int) pa_nil)))))) pss_nil) (pss_cons (ps_if (pt_c (eqK K hr.units) (v_ 2) pe_str) (pss_one ps_never) pss_nil) (pss_cons (ps_if (pt_c (eqK K hr.units) (v_ 2) pe_str) (pss_one ps_never) pss_nil) (pss_one (ps_ret (pe_c (eqK K hr.units) (v_ 2) pe_str))))))), ?_⟩
  refine ⟨_, .inr (SqT.of ht), .str "compare", rfl, ?_⟩
  refine ⟨_, .inr (SqT.of ht), .str f, rfl, d, _, rfl, by rw [← hv]; exact DGet.k (k := kS f) hd, ?_⟩
  refine ⟨_, .inr (SqT.of ht), .str s, rfl, _, .inr (SqT.of ht), .int n, rfl, ?_⟩
  exact ⟨x, n, s, rfl, q⟩
def sp__law_holds (K : PySem.W.Frag) : Sp := sp_holds K
theorem len__law_holds {vs : List V} {H : Hp} {Q : VK} {E : XK} (h : sp__law_holds K vs H Q E) : vs.length = 2 := len_holds h
theorem ok__law_holds {f : Addr} {fd : FuncData} (F : Fun K "_law_holds" "_law_holds" s__law_holds f fd) (T : Gs K mg t_BOUND t_LETTERS t_LONGEST_NAME a_RESERVED a_SIGNS a_BadName a_BadNumber a_BadSign a_Condition a_ElseputError a_UnknownField) : FnOk P w K mg base CX0 1 f fd ["_law_tree", "_law_content"] (sp__law_holds K) := by
  refine F.ok sc__law_holds (fun vs H Q E h => len__law_holds h) (fun cdv A outer s H vs Q E hr h => ?_)
  obtain ⟨t, d, c, f, s, x, n, rfl, ht, hd, hv, q⟩ := h
  have i2 : atI [.str "compare", V.str f, .str s, .int n] (2 : Int) = some (.str s) := rfl
  have i3 : atI [.str "compare", V.str f, .str s, .int n] (3 : Int) = some (.int n) := rfl
  refine ⟨_, (pss_cons (ps_if (pt_c (eqK K hr.units) (e_x K (v_ 0) pe_int) pe_str) (pss_one ps_never) pss_nil) (pss_cons (ps_if (pt_c (eqK K hr.units) (e_x K (v_ 0) pe_int) pe_str) (pss_one ps_never) pss_nil) (pss_cons (ps_if (pt_c (neK K hr.units) (e_x K (v_ 0) pe_int) pe_str) (pss_one (ps_ret (pe_c (eqK K hr.units) (e_x K (v_ 0) pe_int) pe_str))) pss_nil) (pss_cons (ps_set (i := 2) sc__law_holds.nd rfl (.inl rfl) (pe_dget (hu_of hr) (v_ 1) (e_x K (v_ 0) pe_int) (fun _ _ => rfl))) (pss_cons (ps_if (pt_c (eqK K hr.units) (e_x K (v_ 0) pe_int) pe_str) (pss_one (ps_ret (pe_c op_ltM (v_ 2) (e_x K (v_ 0) pe_int)))) pss_nil) (pss_cons (ps_if (pt_c (eqK K hr.units) (e_x K (v_ 0) pe_int) pe_str) (pss_one (ps_ret (pe_c op_leM (v_ 2) (e_x K (v_ 0) pe_int)))) pss_nil) (pss_cons (ps_if (pt_c (eqK K hr.units) (e_x K (v_ 0) pe_int) pe_str) (pss_one (ps_ret (pe_c (eqK K hr.units) (v_ 2) (e_x K (v_ 0) pe_int)))) pss_nil) (pss_cons (ps_if (pt_c (eqK K hr.units) (e_x K (v_ 0) pe_int) pe_str) (pss_one (ps_ret (pe_c (neK K hr.units) (v_ 2) (e_x K (v_ 0) pe_int)))) pss_nil) (pss_cons (ps_if (pt_c (eqK K hr.units) (e_x K (v_ 0) pe_int) pe_str) (pss_one (ps_ret (pe_c op_geM (v_ 2) (e_x K (v_ 0) pe_int)))) pss_nil) (pss_one (ps_ret (pe_c op_gtM (v_ 2) (e_x K (v_ 0) pe_int))))))))))))), ?_⟩
  refine ⟨_, .inr (SqT.of ht), .str "compare", rfl, ?_⟩
  refine ⟨_, .inr (SqT.of ht), .str "compare", rfl, ?_⟩
  refine ⟨_, .inr (SqT.of ht), .str "compare", rfl, ?_⟩
  refine ⟨_, .inr (SqT.of ht), .str f, rfl, d, _, rfl, by rw [← hv]; exact DGet.k (k := kS f) hd, ?_⟩
  unfold cmpB at q
  refine ⟨_, .inr (SqT.of ht), .str s, i2, ?_⟩
  refine ite2 (fun e => ?_) (fun e => ?_)
  · rw [if_pos (of_decide_eq_true e)] at q
    exact ⟨_, .inr (SqT.of ht), .int n, i3, q⟩
  rw [if_neg (of_decide_eq_false (Bool.eq_false_iff.mpr e))] at q
  clear e
  refine ⟨_, .inr (SqT.of ht), .str s, i2, ?_⟩
  refine ite2 (fun e => ?_) (fun e => ?_)
  · rw [if_pos (of_decide_eq_true e)] at q
    exact ⟨_, .inr (SqT.of ht), .int n, i3, q⟩
  rw [if_neg (of_decide_eq_false (Bool.eq_false_iff.mpr e))] at q
  clear e
  refine ⟨_, .inr (SqT.of ht), .str s, i2, ?_⟩
  refine ite2 (fun e => ?_) (fun e => ?_)
  · rw [if_pos (of_decide_eq_true e)] at q
    exact ⟨_, .inr (SqT.of ht), .int n, i3, q⟩
  rw [if_neg (of_decide_eq_false (Bool.eq_false_iff.mpr e))] at q
  clear e
  refine ⟨_, .inr (SqT.of ht), .str s, i2, ?_⟩
  refine ite2 (fun e => ?_) (fun e => ?_)
  · rw [if_pos (of_decide_eq_true e)] at q
    exact ⟨_, .inr (SqT.of ht), .int n, i3, q⟩
  rw [if_neg (of_decide_eq_false (Bool.eq_false_iff.mpr e))] at q
  clear e
  refine ⟨_, .inr (SqT.of ht), .str s, i2, ?_⟩
  refine ite2 (fun e => ?_) (fun e => ?_)
  · rw [if_pos (of_decide_eq_true e)] at q
    exact ⟨_, .inr (SqT.of ht), .int n, i3, q⟩
  rw [if_neg (of_decide_eq_false (Bool.eq_false_iff.mpr e))] at q
  exact ⟨_, .inr (SqT.of ht), .int n, i3, q⟩
def sp_comparisons (K : PySem.W.Frag) : Sp := fun vs H Q _ => ∃ (t : Addr) (f s : Str) (n : Int), vs = [.ref t] ∧ TcAt H t f s n ∧ ∀ D, H D = none → Q (.ref D) (upd H D (.lst [.ref t]))
theorem len_comparisons {vs : List V} {H : Hp} {Q : VK} {E : XK} (h : sp_comparisons K vs H Q E) : vs.length = 1 := by
  obtain ⟨_, _, _, _, rfl, _⟩ := h
  rfl
theorem ok_comparisons {f : Addr} {fd : FuncData} (F : Fun K "comparisons" "comparisons" s_comparisons f fd) (T : Gs K mg t_BOUND t_LETTERS t_LONGEST_NAME a_RESERVED a_SIGNS a_BadName a_BadNumber a_BadSign a_Condition a_ElseputError a_UnknownField) : FnOk P w K mg base CX0 1 f fd ["tree"] (sp_comparisons K) := by
  refine F.ok sc_comparisons (fun vs H Q E h => len_comparisons h) (fun cdv A outer s H vs Q E hr h => ?_)
  obtain ⟨t, f, s, n, rfl, ht, q⟩ := h
  refine ⟨_, (pss_cons (ps_if (pt_c (eqK K hr.units) (e_x K (v_ 0) pe_int) pe_str) (pss_one (ps_ret (pe_lst (pa_cons (v_ 0) pa_nil)))) pss_nil) (pss_one ps_never)), ?_⟩
  refine ⟨_, .inr (SqT.of ht), .str "compare", rfl, ?_⟩
  exact ⟨(by show 1 ≤ sizeLine; decide), q⟩
end
section
variable {P : Program} {w : World} {K : PySem.W.Frag} {mg : Str → Option Value} {base : Heap}
variable {t_BOUND t_LETTERS t_LONGEST_NAME : Tok} {a_RESERVED a_SIGNS a_BadName a_BadNumber a_BadSign a_Condition a_ElseputError a_UnknownField : Addr}
/-! ### conditions -/
def CdAt (K : PySem.W.Frag) (H : Hp) (a : Addr) (f s : Str) (n : Int) : Prop := ∃ (C dx t u : Addr), PySem.W.nsIn K mainGlobals "Condition" = some (some (.ref C)) ∧ H a = some (.ins C dx [("tree", .ref t), ("_fields", .ref u)]) ∧ TcAt H t f s n ∧ H u = some (.tup [.str f])
theorem TcAt.same {H H' : Hp} {t : Addr} {f s : Str} {n : Int} (h : TcAt H t f s n) (sm : Same H H') : TcAt H' t f s n := sm _ _ h
theorem CdAt.same {K : PySem.W.Frag} {H H' : Hp} {a : Addr} {f s : Str} {n : Int} (h : CdAt K H a f s n) (sm : Same H H') : CdAt K H' a f s n := by
  obtain ⟨C, dx, t, u, h1, h2, h3, h4⟩ := h
  exact ⟨C, dx, t, u, h1, sm _ _ h2, h3.same sm, sm _ _ h4⟩
def sp_Condition___init__ (K : PySem.W.Frag) : Sp := fun vs H Q _ => ∃ (a C dx t : Addr) (f s : Str) (n : Int), vs = [.ref a, .ref t] ∧ PySem.W.nsIn K mainGlobals "Condition" = some (some (.ref C)) ∧ H a = some (.ins C dx []) ∧ TcAt H t f s n ∧
  ∀ (H' : Hp) (u : Addr), Bt a H H' → H' a = some (.ins C dx [("tree", .ref t), ("_fields", .ref u)]) → H' u = some (.tup [.str f]) → Q .non H'
theorem len_Condition___init__ {vs : List V} {H : Hp} {Q : VK} {E : XK} (h : sp_Condition___init__ K vs H Q E) : vs.length = 2 := by
  obtain ⟨_, _, _, _, _, _, _, rfl, _⟩ := h
  rfl
theorem ok_Condition___init__ {f : Addr} {fd : FuncData} {f_comparisons : Addr} {fd_comparisons : FuncData} (F : Fun K "__init__" "Condition.__init__" s_Condition___init__ f fd) (T : Gs K mg t_BOUND t_LETTERS t_LONGEST_NAME a_RESERVED a_SIGNS a_BadName a_BadNumber a_BadSign a_Condition a_ElseputError a_UnknownField) (c_comparisons : Cal P w K mg base CX0 1 "comparisons" f_comparisons fd_comparisons ["tree"] (sp_comparisons K)) : FnOk P w K mg base CX0 2 f fd ["self", "tree"] (sp_Condition___init__ K) := by
  refine F.ok sc_Condition___init__ (fun vs H Q E h => len_Condition___init__ h) (fun cdv A outer s H vs Q E hr h => ?_)
  obtain ⟨a, C, dx, t, f, s, n, rfl, hC, ha, ht, q⟩ := h
  cases hC.symm.trans T.n_Condition
  refine ⟨_, (pss_cons (ps_fld (v_ 0) (v_ 1) (by rfl)) (pss_one (ps_fld (v_ 0) (pe_callTy (tupleK K) (by rfl) T.z_tuple (by decide +kernel) (pa_cons (pe_callB (cr_sortTx rfl) (by rfl) T.z_sorted (by decide +kernel) (pa_cons (pe_scT (own := [("part", 2)]) (g := gName 2) (by rfl) sc_Condition___init__.nd (pi_list (pe_call c_comparisons.G (hr.mono (by first | decide | omega)) rfl c_comparisons.m c_comparisons.kp c_comparisons.b .nil pass0 (pa_cons (v_ 1) pa_nil))) (blkOk_by (N := ["self", "tree", "part"]) (sc := defScope s_Condition___init__) (by decide +kernel)) (fun _ _ _ _ _ => pg_name (i := 2) sc_Condition___init__.nd rfl (Or.inl rfl)) (fun _ _ _ _ _ => pts_nil) (fun _ _ _ _ _ => (e_x K (v_ 2) pe_int))) pa_nil)) pa_nil)) (by rfl)))), ?_⟩
  refine ⟨a, a_Condition, dx, [], rfl, ha, T.cl_Condition, T.na_Condition_tree, by decide, ?_⟩
  generalize hH2 : upd H a _ = H2
  have ta : t ≠ a := ne_of ht ha (by intro e; cases e)
  have b1 : Bt a H H2 := fun b o nb hb => by rw [← hH2, upd_ne nb]; exact hb
  have ha2 : H2 a = some (.ins a_Condition dx [("tree", .ref t)]) := by rw [← hH2, upd_same]; rfl
  have ht2 : TcAt H2 t f s n := b1 _ _ ta ht
  clear hH2
  refine ⟨t, f, s, n, rfl, ht2, fun D nD => ?_⟩
  have sD := same_new (o := .lst [.ref t]) nD
  have hD : (upd H2 D (.lst [.ref t])) D = some (.lst [.ref t]) := upd_same
  generalize upd H2 D (.lst [.ref t]) = H3 at sD hD ⊢
  refine ⟨D, rfl, ⟨_, SqL.of hD⟩, fun S nS => ?_⟩
  have eS : ∀ {i : Nat} {m : Nat}, i = 0 → some (TxO P w S (fun j => (decide (0 < i) && decide (j = f)) || decide (j = f)) m) = some (TxO P w S (fun j => decide (0 < i + 1) && decide (j = f)) m) := fun {i m} e => by
    subst e
    rfl
  refine sct_it (walk_list (xs := [.ref t])) (fun i H' => Same H3 H' ∧ H' S = some (TxO P w S (fun j => decide (0 < i) && decide (j = f)) i)) ⟨same_new nS, upd_same⟩ (fun _ _ _ h => SqL.of (h.1 _ _ hD)) ?_ ?_
  · rintro i v H4 H5 hi ⟨s4, hS⟩ ⟨rfl, hv⟩
    have hi : i = 0 := by
      have : i < 1 := hi
      omega
    subst hi
    cases (show some (V.ref t) = some v from hv)
    refine ⟨rfl, ?_⟩
    refine ⟨_, .inr (SqT.of (s4 _ _ (sD _ _ ht2))), .str f, rfl, f, _, _, rfl, hS, by decide +kernel, fun b o hb => ?_, ?_⟩
    · rw [upd_ne (ne_of_none hb nS)]
      exact s4 _ _ hb
    · rw [upd_same]
      exact eS rfl
  · rintro H4 ⟨s4, hS⟩
    refine ⟨S, _, 1, rfl, hS, by decide, fun ss p _ _ hm hl nP => ?_⟩
    obtain ⟨y, rfl⟩ := List.length_eq_one_iff.mp hl
    have ey : y = f := by
      have := (hm y).mp (List.mem_singleton.mpr rfl)
      have : (true && decide (y = f)) = true := this
      simpa using this
    subst ey
    have sp := s4.trans (same_new (o := .lst ([y].map V.str)) nP)
    refine ⟨p, [y].map V.str, rfl, .inl ⟨SqL.of upd_same, fun u nu => ?_⟩⟩
    have su := sp.trans (same_new (o := .tup ([y].map V.str)) nu)
    have hu := upd_same (H := upd H4 p (.lst ([y].map V.str))) (a := u) (o := .tup ([y].map V.str))
    generalize upd (upd H4 p (.lst ([y].map V.str))) u (.tup ([y].map V.str)) = H6 at su hu ⊢
    have ha6 := su _ _ (sD _ _ ha2)
    have ua : u ≠ a := ne_of hu ha6 (by intro e; cases e)
    refine ⟨a, a_Condition, dx, _, rfl, ha6, T.cl_Condition, T.na_Condition__fields, (by show 1 < 1000; decide), ?_⟩
    refine q _ u (fun b o nb hb => ?_) (by rw [upd_same]; rfl) (by rw [upd_ne ua]; exact hu)
    rw [upd_ne nb]
    exact su _ _ (sD _ _ (b1 _ _ nb hb))
def sp_Condition_fields (K : PySem.W.Frag) : Sp := fun vs H Q _ => ∃ (a : Addr) (f s : Str) (n : Int), vs = [.ref a] ∧ CdAt K H a f s n ∧ ∀ u : Addr, H u = some (.tup [.str f]) → Q (.ref u) H
theorem len_Condition_fields {vs : List V} {H : Hp} {Q : VK} {E : XK} (h : sp_Condition_fields K vs H Q E) : vs.length = 1 := by
  obtain ⟨_, _, _, _, rfl, _⟩ := h
  rfl
theorem ok_Condition_fields {f : Addr} {fd : FuncData} (F : Fun K "fields" "Condition.fields" s_Condition_fields f fd) (T : Gs K mg t_BOUND t_LETTERS t_LONGEST_NAME a_RESERVED a_SIGNS a_BadName a_BadNumber a_BadSign a_Condition a_ElseputError a_UnknownField) : FnOk P w K mg base CX0 1 f fd ["self"] (sp_Condition_fields K) := by
  refine F.ok sc_Condition_fields (fun vs H Q E h => len_Condition_fields h) (fun cdv A outer s H vs Q E hr h => ?_)
  obtain ⟨a, f, s, n, rfl, ⟨C, dx, t, u, hC, ha, ht, hu⟩, q⟩ := h
  cases hC.symm.trans T.n_Condition
  refine ⟨_, (pss_one (ps_ret (e_f K (v_ 0)))), ?_⟩
  exact ⟨a, a_Condition, dx, _, _, rfl, ha, T.cl_Condition, T.na_Condition__fields, rfl, q u hu⟩
def sp_Condition_size (K : PySem.W.Frag) : Sp := fun vs H Q _ => ∃ (a : Addr) (f s : Str) (n : Int), vs = [.ref a] ∧ CdAt K H a f s n ∧ ∀ H' : Hp, Same H H' → Q (.int 1) H'
theorem len_Condition_size {vs : List V} {H : Hp} {Q : VK} {E : XK} (h : sp_Condition_size K vs H Q E) : vs.length = 1 := by
  obtain ⟨_, _, _, _, rfl, _⟩ := h
  rfl
theorem ok_Condition_size {f : Addr} {fd : FuncData} {f_comparisons : Addr} {fd_comparisons : FuncData} (F : Fun K "size" "Condition.size" s_Condition_size f fd) (T : Gs K mg t_BOUND t_LETTERS t_LONGEST_NAME a_RESERVED a_SIGNS a_BadName a_BadNumber a_BadSign a_Condition a_ElseputError a_UnknownField) (c_comparisons : Cal P w K mg base CX0 1 "comparisons" f_comparisons fd_comparisons ["tree"] (sp_comparisons K)) : FnOk P w K mg base CX0 2 f fd ["self"] (sp_Condition_size K) := by
  refine F.ok sc_Condition_size (fun vs H Q E h => len_Condition_size h) (fun cdv A outer s H vs Q E hr h => ?_)
  obtain ⟨a, f, s, n, rfl, ⟨C, dx, t, u, hC, ha, ht, hu⟩, q⟩ := h
  cases hC.symm.trans T.n_Condition
  refine ⟨_, (pss_one (ps_ret (pe_callB (lenK K) (by rfl) T.z_len PySem.boot_len (pa_cons (pe_call c_comparisons.G (hr.mono (by first | decide | omega)) rfl c_comparisons.m c_comparisons.kp c_comparisons.b .nil pass0 (pa_cons (e_f K (v_ 0)) pa_nil)) pa_nil)))), ?_⟩
  refine ⟨a, a_Condition, dx, _, _, rfl, ha, T.cl_Condition, T.na_Condition_tree, rfl, t, f, s, n, rfl, ht, fun D nD => ?_⟩
  exact .inl ⟨_, .inl (SqL.of upd_same), q _ (same_new nD)⟩
def sp_Condition___call__ (K : PySem.W.Frag) : Sp := fun vs H Q _ => ∃ (a d : Addr) (c : Ct) (f s : Str) (x n : Int), vs = [.ref a, .ref d] ∧ CdAt K H a f s n ∧ H d = some (.dK c) ∧ valV c (kS f) = some (.int x) ∧ Q (.bl (cmpB s x n)) H
theorem len_Condition___call__ {vs : List V} {H : Hp} {Q : VK} {E : XK} (h : sp_Condition___call__ K vs H Q E) : vs.length = 2 := by
  obtain ⟨_, _, _, _, _, _, _, rfl, _⟩ := h
  rfl
theorem ok_Condition___call__ {f : Addr} {fd : FuncData} {f_holds : Addr} {fd_holds : FuncData} {f_Condition_fields : Addr} {fd_Condition_fields : FuncData} {p_Condition_fields : Addr} {f_UnknownField : Addr} {fd_UnknownField : FuncData} (F : Fun K "__call__" "Condition.__call__" s_Condition___call__ f fd) (T : Gs K mg t_BOUND t_LETTERS t_LONGEST_NAME a_RESERVED a_SIGNS a_BadName a_BadNumber a_BadSign a_Condition a_ElseputError a_UnknownField) (c_holds : Cal P w K mg base CX0 2 "holds" f_holds fd_holds ["tree", "content"] (sp_holds K)) (c_Condition_fields : CalP P w K mg base CX0 1 a_Condition p_Condition_fields "fields" f_Condition_fields fd_Condition_fields ["self"] (sp_Condition_fields K)) (c_UnknownField : CalEI P w K mg base 1 "UnknownField" a_UnknownField f_UnknownField fd_UnknownField ["self", "name"] okx_UnknownField fs_UnknownField ["name"]) : FnOk P w K mg base (L2.CX P w) 3 f fd ["self", "content"] (sp_Condition___call__ K) := by
  refine F.okX sc_Condition___call__ (fun vs H Q E h => len_Condition___call__ h) (fun cdv A outer s H vs Q E hr h => ?_)
  obtain ⟨a, d, c, f, s, x, n, rfl, hA, hd, hv, q⟩ := h
  obtain ⟨C, dx, t, u0, hC, ha, ht, hu0⟩ := id hA
  cases hC.symm.trans T.n_Condition
  refine ⟨_, (pss_cons (ps_for (passes_of rfl) rfl (pi_tup (pe_prop (v_ 0) c_Condition_fields.cl c_Condition_fields.pr c_Condition_fields.G (hr.mono (by first | decide | omega)) c_Condition_fields.b .nil pass0 (by rfl))) (pg_name (i := 2) sc_Condition___call__.nd rfl (.inl rfl)) (pss_one (ps_if (pt_cmp (pc_dnotin (hu_of hr) (v_ 2) (v_ 1))) (pss_one (ps_raise rfl (takes_of rfl rfl rfl rfl) (pmk_oex c_UnknownField.oex c_UnknownField.iC c_UnknownField.tI c_UnknownField.G (hr.mono (by first | decide | omega)) c_UnknownField.b .nil pass0 rfl c_UnknownField.m (pa_cons (v_ 2) pa_nil)))) pss_nil))) (pss_one (ps_ret (pe_call c_holds.G (hr.mono (by first | decide | omega)) rfl c_holds.m c_holds.kp c_holds.b .nil pass0 (pa_cons (e_f K (v_ 0)) (pa_cons (v_ 1) pa_nil)))))), ?_⟩
  refine ⟨a, dx, _, rfl, ha, a, f, s, n, rfl, hA, fun u hu => ⟨u, rfl, ⟨_, SqT.of hu⟩, ?_⟩⟩
  refine for_tup (K := K) (a := u) (xs := [.str f]) (fun i σ' H' => (∃ y, σ' = [some (.ref a), some (.ref d), y]) ∧ H' = H) ⟨⟨_, rfl⟩, rfl⟩ (fun i σ' H' _ h => by rw [h.2]; exact SqT.of hu) ?_ ?_
  · rintro i v σ' H3 hi ⟨⟨y, rfl⟩, rfl⟩
    have ev : v = .str f := by
      match i, hi with
      | 0, hi => exact (Option.some.inj hi).symm
    subst ev
    refine ⟨d, _, rfl, DGet.k (k := kS f) hd, ?_⟩
    rw [hv]
    refine ⟨_, rfl, ?_⟩
    refine ite2 (fun e => nomatch e) (fun _ => ?_)
    exact ⟨⟨_, rfl⟩, rfl⟩
  · rintro σ' H3 ⟨⟨y, rfl⟩, rfl⟩
    exact ⟨a, a_Condition, dx, _, _, rfl, ha, T.cl_Condition, T.na_Condition_tree, rfl, t, d, c, f, s, x, n, rfl, ht, hd, hv, q⟩
theorem same_mk {H : Hp} {x dx C : Addr} (nx : H x = none) (nd : H dx = none) : Same H (upd (upd H dx (.own x)) x (.ins C dx [])) := fun b o hb => by
  rw [upd_ne (ne_of_none hb nx), upd_ne (ne_of_none hb nd)]
  exact hb
/-- the six signs -/
abbrev signs : List Str := ["<", "<=", "==", "!=", ">=", ">"]
def sp_Condition_compare (K : PySem.W.Frag) : Sp := fun vs H Q E => ∃ (f s : Str) (n : Int), vs = [.str f, .str s, .int n] ∧ f.length ≤ 1000 ∧ Asc f ∧ s.length ≤ 1000 ∧ Asc s ∧ n.natAbs < 2 ^ 200 ∧
  (if isName f = true then (if s ∈ signs then (if inB n = true then ∀ (H' : Hp) (a : Addr), Same H H' → H a = none → CdAt K H' a f s n → Q (.ref a) H' else BadI K H n E) else BadS K H s E) else BadN K H f E)
theorem len_Condition_compare {vs : List V} {H : Hp} {Q : VK} {E : XK} (h : sp_Condition_compare K vs H Q E) : vs.length = 3 := by
  obtain ⟨_, _, _, rfl, _⟩ := h
  rfl
theorem ok_Condition_compare {f : Addr} {fd : FuncData} {f_check_name : Addr} {fd_check_name : FuncData} {f_check_number : Addr} {fd_check_number : FuncData} {f_Condition___init__ : Addr} {fd_Condition___init__ : FuncData} {f_BadSign : Addr} {fd_BadSign : FuncData} (F : Fun K "compare" "Condition.compare" s_Condition_compare f fd) (T : Gs K mg t_BOUND t_LETTERS t_LONGEST_NAME a_RESERVED a_SIGNS a_BadName a_BadNumber a_BadSign a_Condition a_ElseputError a_UnknownField) (c_check_name : Cal P w K mg base (L2.CX P w) 3 "check_name" f_check_name fd_check_name ["text"] (sp_check_name K)) (c_check_number : Cal P w K mg base (L2.CX P w) 3 "check_number" f_check_number fd_check_number ["value"] (sp_check_number K)) (c_Condition___init__ : CalI P w K mg base CX0 2 "Condition" a_Condition f_Condition___init__ fd_Condition___init__ ["self", "tree"] (sp_Condition___init__ K)) (c_BadSign : CalE P w K mg base 1 "BadSign" a_BadSign f_BadSign fd_BadSign ["self", "sign"] okx_BadSign fs_BadSign ["sign"]) : FnOk P w K mg base (L2.CX P w) 4 f fd ["field", "sign", "number"] (sp_Condition_compare K) := by
  refine F.okX sc_Condition_compare (fun vs H Q E h => len_Condition_compare h) (fun cdv A outer s H vs Q E hr h => ?_)
  obtain ⟨f, s, n, rfl, f1, f2, s1, s2, n1, q⟩ := h
  refine ⟨_, (pss_cons (ps_expr (pe_call c_check_name.G (hr.mono (by first | decide | omega)) rfl c_check_name.m c_check_name.kp c_check_name.b .nil (passes_call (takes_of rfl rfl rfl rfl) (fun _ _ _ _ h => h)) (pa_cons (v_ 0) pa_nil))) (pss_cons (ps_if (pt_c (notInK K) (v_ 1) (pe_glob (v := .ref a_SIGNS) rfl T.g_SIGNS rfl)) (pss_one (ps_raise rfl (takes_of rfl rfl rfl rfl) (pmk_oex c_BadSign.X.oex c_BadSign.X.iC c_BadSign.X.tI c_BadSign.G (hr.mono (by first | decide | omega)) c_BadSign.b .nil pass0 rfl c_BadSign.m (pa_cons (v_ 1) pa_nil)))) pss_nil) (pss_cons (ps_expr (pe_call c_check_number.G (hr.mono (by first | decide | omega)) rfl c_check_number.m c_check_number.kp c_check_number.b .nil (passes_call (takes_of rfl rfl rfl rfl) (fun _ _ _ _ h => h)) (pa_cons (v_ 2) pa_nil))) (pss_one (ps_ret (pe_make c_Condition___init__.mkc c_Condition___init__.G (hr.mono (by first | decide | omega)) rfl c_Condition___init__.m c_Condition___init__.b .nil pass0 (pa_cons (pe_tup (pa_cons pe_str (pa_cons (v_ 0) (pa_cons (v_ 1) (pa_cons (v_ 2) pa_nil))))) pa_nil))))))), ?_⟩
  refine ⟨f, rfl, f1, f2, ?_⟩
  by_cases hf : isName f = true
  · rw [if_pos hf] at q ⊢
    intro H1 sm
    have eS : ∀ {b : Bool}, (!inV (.str s) [.str "<", .str "<=", .str "==", .str "!=", .str ">=", .str ">"]) = b → decide (s ∉ signs) = b := fun {b} h => by
      have e := inV_str (z := s) (xs := signs)
      rw [show inV (.str s) [.str "<", .str "<=", .str "==", .str "!=", .str ">=", .str ">"] = decide (s ∈ signs) from e] at h
      rw [← h]
      simp
    refine ⟨_, .inr (T.q_SIGNS _), rfl, rfl, ?_⟩
    refine ite2 (fun e => ?_) (fun e => ?_)
    · have e : s ∉ signs := of_decide_eq_true (eS e)
      rw [if_neg e] at q
      refine mk_spE (by show 1 ≤ 1000; decide) ⟨s, rfl, s1, s2⟩ (fun d nd => ?_)
      exact q a_BadSign d _ T.n_BadSign (sm.trans (same_new nd)) (Same.free sm nd) upd_same
    have e : s ∈ signs := by
      have e := of_decide_eq_false (eS (Bool.eq_false_iff.mpr e))
      exact Decidable.not_not.mp e
    rw [if_pos e] at q
    refine ⟨n, rfl, n1, ?_⟩
    by_cases hn : inB n = true
    · rw [if_pos hn] at q ⊢
      refine ⟨(by show 4 ≤ sizeLine; decide), fun t nt => ?_⟩
      have st := same_new (o := .tup [.str "compare", .str f, .str s, .int n]) nt
      have ht := upd_same (H := H1) (a := t) (o := .tup [.str "compare", .str f, .str s, .int n])
      generalize upd H1 t (.tup [.str "compare", .str f, .str s, .int n]) = H2 at st ht ⊢
      intro a da na nda nea
      have sk := same_mk (C := a_Condition) na nda
      refine ⟨a, a_Condition, da, t, f, s, n, rfl, T.n_Condition, upd_same, sk _ _ ht, fun H3 u b hA hu => ⟨rfl, ?_⟩⟩
      have s3 : Same H2 H3 := fun c o hc => b c o (ne_of_none hc na) (sk _ _ hc)
      exact q H3 a ((sm.trans st).trans s3) (Same.free (sm.trans st) na) ⟨a_Condition, da, t, u, T.n_Condition, hA, s3 _ _ ht, hu⟩
    · rw [if_neg hn] at q ⊢
      exact q.same sm
  · rw [if_neg hf] at q ⊢
    exact q
end
section
variable {P : Program} {w : World} {K : PySem.W.Frag} {mg : Str → Option Value} {base : Heap}
variable {t_BOUND t_LETTERS t_LONGEST_NAME : Tok} {a_RESERVED a_SIGNS a_BadName a_BadNumber a_BadSign a_Condition a_ElseputError a_UnknownField : Addr}
/-! ### what is made -/
def MadeAt (H : Hp) (t : Addr) (f s : Str) (n : Int) : Prop :=
  if isName f = true then (if s ∈ signs then (if inB n = true then ∃ u : Addr, H t = some (.tup [.str "let", .ref u]) ∧ TcAt H u f s n else H t = some (.tup [.str "number", .int n])) else H t = some (.tup [.str "sign", .str s])) else H t = some (.tup [.str "name", .str f])
def sp__law_made (K : PySem.W.Frag) : Sp := fun vs H Q _ => ∃ (f s : Str) (n : Int), vs = [.str f, .str s, .int n] ∧ f.length ≤ 1000 ∧ Asc f ∧ s.length ≤ 1000 ∧ Asc s ∧ n.natAbs < 2 ^ 200 ∧ ∀ (H' : Hp) (t : Addr), Same H H' → H t = none → MadeAt H' t f s n → Q (.ref t) H'
theorem len__law_made {vs : List V} {H : Hp} {Q : VK} {E : XK} (h : sp__law_made K vs H Q E) : vs.length = 3 := by
  obtain ⟨_, _, _, rfl, _⟩ := h
  rfl
abbrev kn (a b c d : Bool) : List V := [.bl a, .bl b, .bl c, .bl d]
theorem kn_dp {K : PySem.W.Frag} {H : Hp} {t : Addr} {a b c d : Bool} (h : H t = some (.tup (kn a b c d))) : Dp K H (.ref t) (.tuple [.bool a, .bool b, .bool c, .bool d]) := .tup (SqT.of h) (.cons (.bl _) (.cons (.bl _) (.cons (.bl _) (.cons (.bl _) .nil))))
theorem ok__law_made {f : Addr} {fd : FuncData} {f_Condition_compare : Addr} {fd_Condition_compare : FuncData} {p_Condition_compare : Addr} (F : Fun K "_law_made" "_law_made" s__law_made f fd) (T : Gs K mg t_BOUND t_LETTERS t_LONGEST_NAME a_RESERVED a_SIGNS a_BadName a_BadNumber a_BadSign a_Condition a_ElseputError a_UnknownField) (c_Condition_compare : CalS P w K mg base (L2.CX P w) 4 a_Condition p_Condition_compare "compare" f_Condition_compare fd_Condition_compare ["field", "sign", "number"] (sp_Condition_compare K)) : FnOk P w K mg base CX0 5 f fd ["_law_field", "_law_sign", "_law_number_here"] (sp__law_made K) := by
  refine F.ok sc__law_made (fun vs H Q E h => len__law_made h) (fun cdv A outer s H vs Q E hr h => ?_)
  obtain ⟨f, s, n, rfl, f1, f2, s1, s2, n1, q⟩ := h
  refine ⟨_, (pss_cons (ps_try_as (i := 3) rfl rfl sc__law_made.nd rfl rfl ⟨rfl, by decide +kernel, .inl T.g_ElseputError⟩ takes0 (fun W pn xe tk po => (pss_one (ps_ret (pe_tup (pa_cons pe_str (pa_cons (e_f K (pe_smethS (pe_glob (v := .ref a_Condition) rfl T.g_Condition rfl) c_Condition_compare.rd c_Condition_compare.sm c_Condition_compare.G (hr.mono (by first | decide | omega)) c_Condition_compare.b (fun σ => passAt tk σ) (pa_cons (v_ 0) (pa_cons (v_ 1) (pa_cons (v_ 2) pa_nil))))) pa_nil)))))) (fun ea oe ecls ed epn hz hf => (pss_cons (ps_set (i := 4) sc__law_made.nd rfl (.inl rfl) (pe_tup (pa_cons (pe_callB (call_isX hz hf) (by rfl) T.z_isinstance (by decide +kernel) (pa_cons (v_ 3) (pa_cons (pe_glob (v := .ref a_BadName) rfl T.g_BadName rfl) pa_nil))) (pa_cons (pe_callB (call_isX hz hf) (by rfl) T.z_isinstance (by decide +kernel) (pa_cons (v_ 3) (pa_cons (pe_glob (v := .ref a_BadSign) rfl T.g_BadSign rfl) pa_nil))) (pa_cons (pe_callB (call_isX hz hf) (by rfl) T.z_isinstance (by decide +kernel) (pa_cons (v_ 3) (pa_cons (pe_glob (v := .ref a_BadNumber) rfl T.g_BadNumber rfl) pa_nil))) (pa_cons (pe_callB (call_isX hz hf) (by rfl) T.z_isinstance (by decide +kernel) (pa_cons (v_ 3) (pa_cons (pe_bltn (v := .ty "ValueError") (u := .type "ValueError") (by rfl) T.z_ValueError (by decide +kernel) rfl) pa_nil))) pa_nil)))))) (pss_cons (ps_if (pt_c (eqK K hr.units) (v_ 4) (pe_tup (pa_cons pe_bl (pa_cons pe_bl (pa_cons pe_bl (pa_cons pe_bl pa_nil)))))) (pss_one (ps_ret (pe_tup (pa_cons pe_str (pa_cons (pe_xf T.x_BadName.xf (T.x_BadName.no _ (by decide)) hz hf (v_ 3)) pa_nil))))) pss_nil) (pss_cons (ps_if (pt_c (eqK K hr.units) (v_ 4) (pe_tup (pa_cons pe_bl (pa_cons pe_bl (pa_cons pe_bl (pa_cons pe_bl pa_nil)))))) (pss_one (ps_ret (pe_tup (pa_cons pe_str (pa_cons (pe_xf T.x_BadSign.xf (T.x_BadSign.no _ (by decide)) hz hf (v_ 3)) pa_nil))))) pss_nil) (pss_one (ps_if (pt_c (eqK K hr.units) (v_ 4) (pe_tup (pa_cons pe_bl (pa_cons pe_bl (pa_cons pe_bl (pa_cons pe_bl pa_nil)))))) (pss_one (ps_ret (pe_tup (pa_cons pe_str (pa_cons (pe_xf T.x_BadNumber.xf (T.x_BadNumber.no _ (by decide)) hz hf (v_ 3)) pa_nil))))) pss_nil))))))) (pss_one (ps_ret (pe_tup (pa_cons pe_str pa_nil))))), ?_⟩
  refine ⟨rfl, f, s, n, rfl, f1, f2, s1, s2, n1, ?_⟩
  by_cases hn : isName f = true
  · rw [if_pos hn]
    by_cases hs : s ∈ signs
    · rw [if_pos hs]
      by_cases hb : inB n = true
      · rw [if_pos hb]
        intro H' a sm na hA
        obtain ⟨C3, dz, t3, u3, hC3, ha3, ht3, hu3⟩ := id hA
        cases hC3.symm.trans T.n_Condition
        refine ⟨a, a_Condition, dz, _, _, rfl, ha3, T.cl_Condition, T.na_Condition_tree, rfl, ?_⟩
        refine ⟨(by show 2 ≤ sizeLine; decide), fun t nt => ?_⟩
        have s3 := same_new (o := .tup [.str "let", .ref t3]) nt
        refine q _ t (sm.trans s3) (Same.free sm nt) ?_
        unfold MadeAt
        rw [if_pos hn, if_pos hs, if_pos hb]
        exact ⟨t3, upd_same, ht3.same s3⟩
      · rw [if_neg hb]
        intro C3 d H' hC3 sm nd hd
        cases hC3.symm.trans T.n_BadNumber
        refine ⟨true, T.m_BadNumber_ElseputError, fun _ e ne => ?_, fun h => nomatch h⟩
        refine ⟨_, d, _, _, _, false, rfl, rfl, rfl, hd, T.x_BadNumber.is, fun u h => h, T.k_BadNumber_BadName, ?_⟩
        refine ⟨_, d, _, _, _, false, rfl, rfl, rfl, hd, T.x_BadNumber.is, fun u h => h, T.k_BadNumber_BadSign, ?_⟩
        refine ⟨_, d, _, _, _, true, rfl, rfl, rfl, hd, T.x_BadNumber.is, fun u h => h, T.k_BadNumber_BadNumber, ?_⟩
        refine ⟨_, d, _, _, _, true, rfl, rfl, rfl, hd, T.x_BadNumber.is, fun u h => h, T.k_BadNumber_ValueError, ?_⟩
        refine ⟨(by show 4 ≤ sizeLine; decide), fun t1 n1 => ?_⟩
        have s1 := same_new (o := .tup (kn false false true true)) n1
        have h1 := upd_same (H := H') (a := t1) (o := .tup (kn false false true true))
        generalize upd H' t1 (.tup (kn false false true true)) = H2 at s1 h1 ⊢
        refine ⟨(by show 4 ≤ sizeLine; decide), fun t2 n2 => ?_⟩
        have s2 := same_new (o := .tup (kn true false false true)) n2
        refine ⟨_, _, kn_dp (s2 _ _ h1), kn_dp upd_same, rfl, rfl, ?_⟩
        refine ite2 (fun e => absurd e (by decide +kernel)) (fun _ => ?_)
        generalize upd H2 t2 (.tup (kn true false false true)) = H3 at s2 ⊢
        refine ⟨(by show 4 ≤ sizeLine; decide), fun t3 n3 => ?_⟩
        have s3 := same_new (o := .tup (kn false true false true)) n3
        refine ⟨_, _, kn_dp (s3 _ _ (s2 _ _ h1)), kn_dp upd_same, rfl, rfl, ?_⟩
        refine ite2 (fun e => absurd e (by decide +kernel)) (fun _ => ?_)
        generalize upd H3 t3 (.tup (kn false true false true)) = H4 at s3 ⊢
        refine ⟨(by show 4 ≤ sizeLine; decide), fun t4 n4 => ?_⟩
        have s4 := same_new (o := .tup (kn false false true true)) n4
        refine ⟨_, _, kn_dp (s4 _ _ (s3 _ _ (s2 _ _ h1))), kn_dp upd_same, rfl, rfl, ?_⟩
        refine ite2 (fun _ => ?_) (fun e => absurd (by decide +kernel) e)
        have s14 := ((s1.trans s2).trans s3).trans s4
        refine ⟨rfl, rfl, d, _, _, rfl, s14 _ _ hd, rfl, (by show 2 ≤ sizeLine; decide), fun t nt => ?_⟩
        refine q _ t ((sm.trans s14).trans (same_new nt)) (Same.free (sm.trans s14) nt) ?_
        unfold MadeAt
        rw [if_pos hn, if_pos hs, if_neg hb]
        exact upd_same
    · rw [if_neg hs]
      intro C3 d H' hC3 sm nd hd
      cases hC3.symm.trans T.n_BadSign
      refine ⟨true, T.m_BadSign_ElseputError, fun _ e ne => ?_, fun h => nomatch h⟩
      refine ⟨_, d, _, _, _, false, rfl, rfl, rfl, hd, T.x_BadSign.is, fun u h => h, T.k_BadSign_BadName, ?_⟩
      refine ⟨_, d, _, _, _, true, rfl, rfl, rfl, hd, T.x_BadSign.is, fun u h => h, T.k_BadSign_BadSign, ?_⟩
      refine ⟨_, d, _, _, _, false, rfl, rfl, rfl, hd, T.x_BadSign.is, fun u h => h, T.k_BadSign_BadNumber, ?_⟩
      refine ⟨_, d, _, _, _, true, rfl, rfl, rfl, hd, T.x_BadSign.is, fun u h => h, T.k_BadSign_ValueError, ?_⟩
      refine ⟨(by show 4 ≤ sizeLine; decide), fun t1 n1 => ?_⟩
      have s1 := same_new (o := .tup (kn false true false true)) n1
      have h1 := upd_same (H := H') (a := t1) (o := .tup (kn false true false true))
      generalize upd H' t1 (.tup (kn false true false true)) = H2 at s1 h1 ⊢
      refine ⟨(by show 4 ≤ sizeLine; decide), fun t2 n2 => ?_⟩
      have s2 := same_new (o := .tup (kn true false false true)) n2
      refine ⟨_, _, kn_dp (s2 _ _ h1), kn_dp upd_same, rfl, rfl, ?_⟩
      refine ite2 (fun e => absurd e (by decide +kernel)) (fun _ => ?_)
      generalize upd H2 t2 (.tup (kn true false false true)) = H3 at s2 ⊢
      refine ⟨(by show 4 ≤ sizeLine; decide), fun t3 n3 => ?_⟩
      have s3 := same_new (o := .tup (kn false true false true)) n3
      refine ⟨_, _, kn_dp (s3 _ _ (s2 _ _ h1)), kn_dp upd_same, rfl, rfl, ?_⟩
      refine ite2 (fun _ => ?_) (fun e => absurd (by decide +kernel) e)
      have s14 := (s1.trans s2).trans s3
      refine ⟨rfl, rfl, d, _, _, rfl, s14 _ _ hd, rfl, (by show 2 ≤ sizeLine; decide), fun t nt => ?_⟩
      refine q _ t ((sm.trans s14).trans (same_new nt)) (Same.free (sm.trans s14) nt) ?_
      unfold MadeAt
      rw [if_pos hn, if_neg hs]
      exact upd_same
  · rw [if_neg hn]
    intro C3 d H' hC3 sm nd hd
    cases hC3.symm.trans T.n_BadName
    refine ⟨true, T.m_BadName_ElseputError, fun _ e ne => ?_, fun h => nomatch h⟩
    refine ⟨_, d, _, _, _, true, rfl, rfl, rfl, hd, T.x_BadName.is, fun u h => h, T.k_BadName_BadName, ?_⟩
    refine ⟨_, d, _, _, _, false, rfl, rfl, rfl, hd, T.x_BadName.is, fun u h => h, T.k_BadName_BadSign, ?_⟩
    refine ⟨_, d, _, _, _, false, rfl, rfl, rfl, hd, T.x_BadName.is, fun u h => h, T.k_BadName_BadNumber, ?_⟩
    refine ⟨_, d, _, _, _, true, rfl, rfl, rfl, hd, T.x_BadName.is, fun u h => h, T.k_BadName_ValueError, ?_⟩
    refine ⟨(by show 4 ≤ sizeLine; decide), fun t1 n1 => ?_⟩
    have s1 := same_new (o := .tup (kn true false false true)) n1
    have h1 := upd_same (H := H') (a := t1) (o := .tup (kn true false false true))
    generalize upd H' t1 (.tup (kn true false false true)) = H2 at s1 h1 ⊢
    refine ⟨(by show 4 ≤ sizeLine; decide), fun t2 n2 => ?_⟩
    have s2 := same_new (o := .tup (kn true false false true)) n2
    refine ⟨_, _, kn_dp (s2 _ _ h1), kn_dp upd_same, rfl, rfl, ?_⟩
    refine ite2 (fun _ => ?_) (fun e => absurd (by decide +kernel) e)
    have s14 := s1.trans s2
    refine ⟨rfl, rfl, d, _, _, rfl, s14 _ _ hd, rfl, (by show 2 ≤ sizeLine; decide), fun t nt => ?_⟩
    refine q _ t ((sm.trans s14).trans (same_new nt)) (Same.free (sm.trans s14) nt) ?_
    unfold MadeAt
    rw [if_neg hn]
    exact upd_same
end
section
variable {P : Program} {w : World} {K : PySem.W.Frag} {mg : Str → Option Value} {base : Heap}
variable {t_BOUND t_LETTERS t_LONGEST_NAME : Tok} {a_RESERVED a_SIGNS a_BadName a_BadNumber a_BadSign a_Condition a_ElseputError a_UnknownField : Addr}
/-! ### what is asked of a condition -/
theorem bd_small {i : Int} (h : Bd i) : i.natAbs < 2 ^ 200 := by
  have e : (2 : Nat) ^ 200 = 1606938044258990275541962092341162602522202993782792835301376 := by decide +kernel
  rw [e]
  unfold Bd at h
  omega
theorem inB_of {i : Int} (h : Bd i) : inB i = true := by
  unfold inB
  rw [decide_eq_true h.1, decide_eq_true h.2]
  rfl
theorem same_dict {H : Hp} {p d : Addr} {c : Ct} {n : Nat} (h1 : H p = some (.dK c)) (h2 : H d = some (.dK c)) (hI : Ints c) : SameV H (n + 2) (.ref p) (.ref d) := by
  refine .inr (.inr (.inr (.inl ⟨p, d, _, _, rfl, rfl, h1, h2, rfl, by omega, fun j k v hk => ?_⟩)))
  obtain ⟨v', hv'⟩ := val_some hk
  obtain ⟨m, rfl⟩ := hI _ _ hv'
  exact ⟨m, hv', hv'⟩
theorem same_int {H : Hp} {n : Nat} (i : Int) : SameV H (n + 1) (.int i) (.int i) := .inl ⟨i, rfl, rfl⟩
theorem same_str {H : Hp} {n : Nat} (z : Str) : SameV H (n + 1) (.str z) (.str z) := .inr (.inl ⟨z, rfl, rfl⟩)
theorem same_bl {H : Hp} {n : Nat} (b : Bool) : SameV H (n + 1) (.bl b) (.bl b) := .inr (.inr (.inr (.inr ⟨b, rfl, rfl⟩)))
theorem same_tupN {H : Hp} {t u : Addr} {xs ys : List V} {n : Nat} (h1 : H t = some (.tup xs)) (h2 : H u = some (.tup ys)) (hl : xs.length = ys.length) (h4 : ys.length ≤ 1000) (h : ∀ (i : Nat) (a b : V), xs[i]? = some a → ys[i]? = some b → SameV H n a b) : SameV H (n + 1) (.ref t) (.ref u) :=
  .inr (.inr (.inl ⟨t, u, _, _, rfl, rfl, .inr ⟨h1, h2⟩, hl, h4, h⟩))
theorem same_tree {H : Hp} {t u : Addr} {f s : Str} {n : Int} {m : Nat} (h1 : TcAt H t f s n) (h2 : TcAt H u f s n) : SameV H (m + 2) (.ref t) (.ref u) := by
  refine same_tupN h1 h2 rfl (by show 4 ≤ 1000; decide) fun i a b ha hb => ?_
  rw [ha] at hb
  cases hb
  match i, ha with
  | 0, ha => cases ha; exact same_str _
  | 1, ha => cases ha; exact same_str _
  | 2, ha => cases ha; exact same_str _
  | 3, ha => cases ha; exact same_int _
theorem same_one {H : Hp} {t u : Addr} {x y : V} {m : Nat} (h1 : H t = some (.tup [x])) (h2 : H u = some (.tup [y])) (h : SameV H (m + 1) x y) : SameV H (m + 2) (.ref t) (.ref u) := by
  refine same_tupN h1 h2 rfl (by show 1 ≤ 1000; decide) fun i a b ha hb => ?_
  match i, ha, hb with
  | 0, ha, hb => cases ha; cases hb; exact h
theorem same_two {H : Hp} {t u : Addr} {w : Str} {x y : V} {m : Nat} (h1 : H t = some (.tup [.str w, x])) (h2 : H u = some (.tup [.str w, y])) (h : SameV H (m + 1) x y) : SameV H (m + 2) (.ref t) (.ref u) := by
  refine same_tupN h1 h2 rfl (by show 2 ≤ 1000; decide) fun i a b ha hb => ?_
  match i, ha, hb with
  | 0, ha, hb => cases ha; cases hb; exact same_str _
  | 1, ha, hb => cases ha; cases hb; exact h
def sp__law_asked (K : PySem.W.Frag) : Sp := fun vs H Q _ => ∃ (f s o : Str) (n : Int) (p : Addr) (xs : List Int), vs = [.str f, .str s, .int n, .str o, .ref p] ∧ H p = some (.lst (xs.map V.int)) ∧ 0 < xs.length ∧ isName f = true ∧ s ∈ signs ∧ Bd n ∧ ∀ H' : Hp, Same H H' → Q (.bl true) H'
theorem len__law_asked {vs : List V} {H : Hp} {Q : VK} {E : XK} (h : sp__law_asked K vs H Q E) : vs.length = 5 := by
  obtain ⟨_, _, _, _, _, _, rfl, _⟩ := h
  rfl
theorem signs_asc : ∀ s ∈ signs, s.length ≤ 1000 ∧ Asc s := (by decide +kernel : ∀ s ∈ signs, s.length ≤ 1000 ∧ ∀ c ∈ s.cps.toList, c < 16 ^ 8)
theorem ct2_val (f o : Str) (v0 v : Int) : valV (mergeK [] [(kS o, V.int v0), (kS f, V.int v)]) (kS f) = some (.int v) := by
  show valV (putK (putK [] (kS o) (.int v0)) (kS f) (.int v)) (kS f) = _
  rw [valV_put, if_pos rfl]
theorem ct2_ints (f o : Str) (v0 v : Int) : Ints (mergeK [] [(kS o, V.int v0), (kS f, V.int v)]) := fun k w h => by
  have h : valV (putK (putK [] (kS o) (.int v0)) (kS f) (.int v)) k = some w := h
  rw [valV_put] at h
  split at h
  · exact ⟨v, (Option.some.inj h).symm⟩
  · rw [valV_put] at h
    split at h
    · exact ⟨v0, (Option.some.inj h).symm⟩
    · cases h
theorem ok__law_asked {f : Addr} {fd : FuncData} {f__law_same : Addr} {fd__law_same : FuncData} {f__law_holds : Addr} {fd__law_holds : FuncData} {f_Condition_compare : Addr} {fd_Condition_compare : FuncData} {p_Condition_compare : Addr} {f_Condition_fields : Addr} {fd_Condition_fields : FuncData} {p_Condition_fields : Addr} {f_Condition_size : Addr} {fd_Condition_size : FuncData} {p_Condition_size : Addr} {f_Condition___call__ : Addr} {fd_Condition___call__ : FuncData} (F : Fun K "_law_asked" "_law_asked" s__law_asked f fd) (T : Gs K mg t_BOUND t_LETTERS t_LONGEST_NAME a_RESERVED a_SIGNS a_BadName a_BadNumber a_BadSign a_Condition a_ElseputError a_UnknownField) (c__law_same : Cal P w K mg base CX0 6 "_law_same" f__law_same fd__law_same ["_law_actual", "_law_due"] (sp__law_same K)) (c__law_holds : Cal P w K mg base CX0 1 "_law_holds" f__law_holds fd__law_holds ["_law_tree", "_law_content"] (sp__law_holds K)) (c_Condition_compare : CalS P w K mg base (L2.CX P w) 4 a_Condition p_Condition_compare "compare" f_Condition_compare fd_Condition_compare ["field", "sign", "number"] (sp_Condition_compare K)) (c_Condition_fields : CalP P w K mg base CX0 1 a_Condition p_Condition_fields "fields" f_Condition_fields fd_Condition_fields ["self"] (sp_Condition_fields K)) (c_Condition_size : CalP P w K mg base CX0 2 a_Condition p_Condition_size "size" f_Condition_size fd_Condition_size ["self"] (sp_Condition_size K)) (c_Condition___call__ : CalC P w K mg base (L2.CX P w) 3 a_Condition f_Condition___call__ fd_Condition___call__ ["self", "content"] (sp_Condition___call__ K)) : FnOk P w K mg base CX0 9 f fd ["_law_field", "_law_sign", "_law_number_here", "_law_other_field", "_law_values"] (sp__law_asked K) := by
  refine F.ok sc__law_asked (fun vs H Q E h => len__law_asked h) (fun cdv A outer s H vs Q E hr h => ?_)
  obtain ⟨f, s, o, n, p, xs, rfl, hp, hl, hf, hs, hn, q⟩ := h
  have f1 : f.length ≤ 1000 := by have := (isName_mem hf).2.2.1; omega
  refine ⟨_, (pss_cons (ps_set (i := 5) sc__law_asked.nd rfl (.inl rfl) (pe_tup (pa_cons pe_str (pa_cons (v_ 0) (pa_cons (v_ 1) (pa_cons (v_ 2) pa_nil)))))) (pss_cons (ps_set (i := 6) sc__law_asked.nd rfl (.inl rfl) (pe_smeth (pe_glob (v := .ref a_Condition) rfl T.g_Condition rfl) c_Condition_compare.rd c_Condition_compare.sm c_Condition_compare.G (hr.mono (by first | decide | omega)) c_Condition_compare.b passL (pa_cons (v_ 0) (pa_cons (v_ 1) (pa_cons (v_ 2) pa_nil))))) (pss_cons (ps_for PassesOwn.never rfl (pi_list (v_ 4)) (pg_name (i := 7) sc__law_asked.nd rfl (.inl rfl)) (pss_cons (ps_set (i := 8) sc__law_asked.nd rfl (.inl rfl) (pe_disp (pps_cons (v_ 3) (e_x K (v_ 4) pe_int) (pps_cons (v_ 0) (v_ 7) pps_nil)) (by rfl) (by rfl) (by intro h; cases h) (by decide))) (pss_cons (ps_set (i := 9) sc__law_asked.nd rfl (.inl rfl) (pe_callTy call_dictD (by rfl) T.z_dict (by decide +kernel) (pa_cons (v_ 8) pa_nil))) (pss_one (ps_if (PW.pt (pw_or (pt_not (pt_t K (pe_call c__law_same.G (hr.mono (by first | decide | omega)) rfl c__law_same.m c__law_same.kp c__law_same.b .nil pass0 (pa_cons (StX.pe_callO (v_ 6) c_Condition___call__.co (FnOk.raw c_Condition___call__.G c_Condition___call__.b .nil) (hr.mono (by first | decide | omega)) passL (pa_cons (v_ 9) pa_nil)) (pa_cons (pe_call c__law_holds.G (hr.mono (by first | decide | omega)) rfl c__law_holds.m c__law_holds.kp c__law_holds.b .nil pass0 (pa_cons (v_ 5) (pa_cons (v_ 8) pa_nil))) pa_nil))))) (pw_or1 (pt_not (pt_t K (pe_call c__law_same.G (hr.mono (by first | decide | omega)) rfl c__law_same.m c__law_same.kp c__law_same.b .nil pass0 (pa_cons (v_ 9) (pa_cons (v_ 8) pa_nil)))))))) (pss_one (ps_ret pe_bl)) pss_nil))))) (pss_one (ps_ret (pe_andM (pe_call c__law_same.G (hr.mono (by first | decide | omega)) rfl c__law_same.m c__law_same.kp c__law_same.b .nil pass0 (pa_cons (e_f K (v_ 6)) (pa_cons (v_ 5) pa_nil))) (pe_andM (pe_call c__law_same.G (hr.mono (by first | decide | omega)) rfl c__law_same.m c__law_same.kp c__law_same.b .nil pass0 (pa_cons (pe_prop (v_ 6) c_Condition_fields.cl c_Condition_fields.pr c_Condition_fields.G (hr.mono (by first | decide | omega)) c_Condition_fields.b .nil pass0 (by rfl)) (pa_cons (pe_tup (pa_cons (v_ 0) pa_nil)) pa_nil))) (pe_one (pe_call c__law_same.G (hr.mono (by first | decide | omega)) rfl c__law_same.m c__law_same.kp c__law_same.b .nil pass0 (pa_cons (pe_prop (v_ 6) c_Condition_size.cl c_Condition_size.pr c_Condition_size.G (hr.mono (by first | decide | omega)) c_Condition_size.b .nil pass0 (by rfl)) (pa_cons pe_int pa_nil))))))))))), ?_⟩
  refine ⟨(by show 4 ≤ sizeLine; decide), fun t nt => ?_⟩
  have st := same_new (o := .tup [.str "compare", .str f, .str s, .int n]) nt
  have ht : TcAt _ t f s n := upd_same (H := H) (a := t) (o := .tup [.str "compare", .str f, .str s, .int n])
  generalize upd H t (.tup [.str "compare", .str f, .str s, .int n]) = H1 at st ht ⊢
  refine ⟨rfl, f, s, n, rfl, f1, isName_asc hf, (signs_asc s hs).1, (signs_asc s hs).2, bd_small hn, ?_⟩
  rw [if_pos hf, if_pos hs, if_pos (inB_of hn)]
  intro H2 a s2 na hA
  have ht2 := ht.same s2
  have hp2 := s2 _ _ (st _ _ hp)
  have sm := st.trans s2
  clear s2 ht st nt na
  obtain ⟨C, dx, t3, u3, hC, ha, ht3, hu3⟩ := id hA
  cases hC.symm.trans T.n_Condition
  refine ⟨p, rfl, ⟨_, SqL.of hp2⟩, ?_⟩
  obtain ⟨v0, ev0⟩ : ∃ v0, xs[0]? = some v0 := ⟨_, List.getElem?_eq_getElem hl⟩
  refine for_list (K := K) (a := p) (xs := xs.map V.int) (fun i σ' H' => (∃ (x y z : Option V), σ' = [some (.str f), some (.str s), some (.int n), some (.str o), some (.ref p), some (.ref t), some (.ref a), x, y, z]) ∧ Same H2 H') ⟨⟨_, _, _, rfl⟩, Same.refl _⟩ (fun i σ' H' _ h => SqL.of (h.2 _ _ hp2)) ?_ ?_
  · rintro i v σ' H3 hi ⟨⟨x, y, z, rfl⟩, s3⟩
    rw [List.getElem?_map] at hi
    obtain ⟨v, hv, rfl⟩ := Option.map_eq_some_iff.mp hi
    intro d nd
    have sd := s3.trans (same_new (o := .dK []) nd)
    refine ⟨_, .inl (SqL.of (sd _ _ hp2)), .int v0, atI_nat (j := 0) (by rw [List.getElem?_map, ev0]; rfl), upd_same, [(kS o, V.int v0), (kS f, V.int v)], rfl, (by show 2 ≤ 15; decide), ?_⟩
    rw [upd_upd]
    have hv2 := ct2_val f o v0 v
    have hI := ct2_ints f o v0 v
    generalize mergeK [] [(kS o, V.int v0), (kS f, V.int v)] = c at hv2 hI ⊢
    have sd := s3.trans (same_new (o := .dK c) nd)
    have hd := upd_same (H := H3) (a := d) (o := .dK c)
    generalize upd H3 d (.dK c) = H4 at sd hd ⊢
    refine ⟨d, c, rfl, .inl hd, fun e ne => ?_⟩
    have se := same_new (o := .dK c) ne
    have he := upd_same (H := H4) (a := e) (o := .dK c)
    generalize upd H4 e (.dK c) = H5 at se he ⊢
    have s5 := sd.trans se
    have hd5 := se _ _ hd
    refine ⟨a, rfl, .inr ⟨dx, _, s5 _ _ ha⟩, a, e, c, f, s, v, n, rfl, hA.same s5, he, hv2, ?_⟩
    refine ⟨t, d, c, f, s, v, n, rfl, ht2.same s5, hd5, hv2, ?_⟩
    refine ⟨_, _, rfl, same_bl _, ?_⟩
    refine ite2 (fun e => nomatch e) (fun _ => ?_)
    refine ⟨_, _, rfl, same_dict he hd5 hI, ?_⟩
    refine ite2 (fun e => nomatch e) (fun _ => ?_)
    exact ⟨⟨_, _, _, rfl⟩, s5⟩
  rintro σ' H3 ⟨⟨x, y, z, rfl⟩, s3⟩
  have hA3 := hA.same s3
  refine ⟨a, a_Condition, dx, _, _, rfl, s3 _ _ ha, T.cl_Condition, T.na_Condition_tree, rfl, ?_⟩
  refine ⟨_, _, rfl, same_tree (ht3.same s3) (ht2.same s3), ?_⟩
  refine ⟨a, dx, _, rfl, s3 _ _ ha, a, f, s, n, rfl, hA3, fun u hu => ?_⟩
  refine ⟨(by show 1 ≤ sizeLine; decide), fun w nw => ?_⟩
  have sw := same_new (o := .tup [.str f]) nw
  refine ⟨_, _, rfl, same_one (sw _ _ hu) upd_same (same_str f), ?_⟩
  generalize upd H3 w (.tup [.str f]) = H4 at sw ⊢
  refine ⟨a, dx, _, rfl, sw _ _ (s3 _ _ ha), a, f, s, n, rfl, hA3.same sw, fun H5 s5 => ?_⟩
  refine ⟨_, _, rfl, same_int 1, ?_⟩
  exact q _ (((sm.trans s3).trans sw).trans s5)
/-! ### what is refused -/
def Due1 (H : Hp) (t : Addr) (f s : Str) (n : Int) : Prop := if inB n = true then ∃ u : Addr, H t = some (.tup [.str "let", .ref u]) ∧ TcAt H u f s n else H t = some (.tup [.str "number", .int n])
def Due2 (H : Hp) (t : Addr) (f s : Str) (n : Int) : Prop := if s ∈ signs then Due1 H t f s n else H t = some (.tup [.str "sign", .str s])
theorem MadeAt.due {H : Hp} {t : Addr} {f s : Str} {n : Int} : MadeAt H t f s n ↔ if isName f = true then Due2 H t f s n else H t = some (.tup [.str "name", .str f]) := Iff.rfl
theorem made_same {H : Hp} {t u : Addr} {f s : Str} {n : Int} (h1 : MadeAt H t f s n) (h2 : MadeAt H u f s n) : SameV H 4 (.ref t) (.ref u) := by
  unfold MadeAt at h1 h2
  by_cases hf : isName f = true
  · rw [if_pos hf] at h1 h2
    by_cases hs : s ∈ signs
    · rw [if_pos hs] at h1 h2
      by_cases hn : inB n = true
      · rw [if_pos hn] at h1 h2
        obtain ⟨v, e1, e2⟩ := h1
        obtain ⟨v', e3, e4⟩ := h2
        exact same_two e1 e3 (same_tree e2 e4)
      · rw [if_neg hn] at h1 h2
        exact same_two h1 h2 (same_int n)
    · rw [if_neg hs] at h1 h2
      exact same_two h1 h2 (same_str s)
  · rw [if_neg hf] at h1 h2
    exact same_two h1 h2 (same_str f)
theorem MadeAt.same {H H' : Hp} {t : Addr} {f s : Str} {n : Int} (h : MadeAt H t f s n) (sm : Same H H') : MadeAt H' t f s n := by
  unfold MadeAt at *
  by_cases hf : isName f = true
  · rw [if_pos hf] at h ⊢
    by_cases hs : s ∈ signs
    · rw [if_pos hs] at h ⊢
      by_cases hn : inB n = true
      · rw [if_pos hn] at h ⊢
        obtain ⟨v, e1, e2⟩ := h
        exact ⟨v, sm _ _ e1, e2.same sm⟩
      · rw [if_neg hn] at h ⊢
        exact sm _ _ h
    · rw [if_neg hs] at h ⊢
      exact sm _ _ h
  · rw [if_neg hf] at h ⊢
    exact sm _ _ h
theorem inB_out' {i : Int} (h : i < -1000000000000000000000000000000 ∨ 1000000000000000000000000000000 < i) : inB i = false := inB_out h
def sp__law_refused (K : PySem.W.Frag) : Sp := fun vs H Q _ => ∃ (st scr : Addr) (z s : Str) (n k : Int), vs = [.ref st, .str z, .str s, .int n, .int k] ∧ DrAt H st scr ∧ isName z = true ∧ s ∈ signs ∧ Bd n ∧ ∀ (H' : Hp), Bt st H H' → DrAt H' st scr → Q (.bl true) H'
theorem len__law_refused {vs : List V} {H : Hp} {Q : VK} {E : XK} (h : sp__law_refused K vs H Q E) : vs.length = 5 := by
  obtain ⟨_, _, _, _, _, _, rfl, _⟩ := h
  rfl
abbrev bads : List Str := ["=", "<>", "", "=<", "=>", "!", "===", "< ", " >", "!==", "<<", "and", "-", "<=="]
theorem bads_bad : ∀ s ∈ bads, s ∉ signs ∧ s.length ≤ 1000 ∧ Asc s := (by decide +kernel : ∀ s ∈ bads, s ∉ signs ∧ s.length ≤ 1000 ∧ ∀ c ∈ s.cps.toList, c < 16 ^ 8)
theorem ok__law_refused {f : Addr} {fd : FuncData} {f__law_bad_name : Addr} {fd__law_bad_name : FuncData} {f__law_pick : Addr} {fd__law_pick : FuncData} {f__law_bad_number : Addr} {fd__law_bad_number : FuncData} {f__law_same : Addr} {fd__law_same : FuncData} {f__law_made : Addr} {fd__law_made : FuncData} (F : Fun K "_law_refused" "_law_refused" s__law_refused f fd) (T : Gs K mg t_BOUND t_LETTERS t_LONGEST_NAME a_RESERVED a_SIGNS a_BadName a_BadNumber a_BadSign a_Condition a_ElseputError a_UnknownField) (c__law_bad_name : Cal P w K mg base CX0 3 "_law_bad_name" f__law_bad_name fd__law_bad_name ["_law_state_here", "_law_name", "_law_kind"] (sp__law_bad_name K)) (c__law_pick : Cal P w K mg base CX0 2 "_law_pick" f__law_pick fd__law_pick ["_law_state_here", "_law_row"] (sp__law_pick K)) (c__law_bad_number : Cal P w K mg base CX0 2 "_law_bad_number" f__law_bad_number fd__law_bad_number ["_law_state_here"] (sp__law_bad_number K)) (c__law_same : Cal P w K mg base CX0 6 "_law_same" f__law_same fd__law_same ["_law_actual", "_law_due"] (sp__law_same K)) (c__law_made : Cal P w K mg base CX0 5 "_law_made" f__law_made fd__law_made ["_law_field", "_law_sign", "_law_number_here"] (sp__law_made K)) : FnOk P w K mg base CX0 9 f fd ["_law_state_here", "_law_name", "_law_sign", "_law_number_here", "_law_kind"] (sp__law_refused K) := by
  refine F.ok sc__law_refused (fun vs H Q E h => len__law_refused h) (fun cdv A outer s H vs Q E hr h => ?_)
  obtain ⟨st, scr, z, s, n, k, rfl, hd, hz, hs, hn, q⟩ := h
  refine ⟨_, (pss_cons (ps_set (i := 5) sc__law_refused.nd rfl (.inl rfl) (pe_call c__law_bad_name.G (hr.mono (by first | decide | omega)) rfl c__law_bad_name.m c__law_bad_name.kp c__law_bad_name.b .nil pass0 (pa_cons (v_ 0) (pa_cons (v_ 1) (pa_cons (v_ 4) pa_nil))))) (pss_cons (ps_set (i := 6) sc__law_refused.nd rfl (.inl rfl) (pe_call c__law_pick.G (hr.mono (by first | decide | omega)) rfl c__law_pick.m c__law_pick.kp c__law_pick.b .nil pass0 (pa_cons (v_ 0) (pa_cons (pe_lst (pa_cons pe_str (pa_cons pe_str (pa_cons pe_str (pa_cons pe_str (pa_cons pe_str (pa_cons pe_str (pa_cons pe_str (pa_cons pe_str (pa_cons pe_str (pa_cons pe_str (pa_cons pe_str (pa_cons pe_str (pa_cons pe_str (pa_cons pe_str pa_nil))))))))))))))) pa_nil)))) (pss_cons (ps_set (i := 7) sc__law_refused.nd rfl (.inl rfl) (pe_call c__law_bad_number.G (hr.mono (by first | decide | omega)) rfl c__law_bad_number.m c__law_bad_number.kp c__law_bad_number.b .nil pass0 (pa_cons (v_ 0) pa_nil))) (pss_cons (ps_for PassesOwn.never rfl (pi_list (pe_lst (pa_cons (v_ 1) (pa_cons (v_ 5) pa_nil)))) (pg_name (i := 8) sc__law_refused.nd rfl (.inl rfl)) (pss_one (ps_for PassesOwn.never rfl (pi_list (pe_lst (pa_cons (v_ 2) (pa_cons (v_ 6) pa_nil)))) (pg_name (i := 9) sc__law_refused.nd rfl (.inl rfl)) (pss_one (ps_for PassesOwn.never rfl (pi_list (pe_lst (pa_cons (v_ 3) (pa_cons (v_ 7) pa_nil)))) (pg_name (i := 10) sc__law_refused.nd rfl (.inl rfl)) (pss_cons (ps_set (i := 11) sc__law_refused.nd rfl (.inl rfl) (pe_tup (pa_cons pe_str (pa_cons (pe_tup (pa_cons pe_str (pa_cons (v_ 8) (pa_cons (v_ 9) (pa_cons (v_ 10) pa_nil))))) pa_nil)))) (Evl.pss_cut (ps_if (pt_c (eqK K hr.units) (v_ 10) (v_ 7)) (pss_one (ps_set (i := 11) sc__law_refused.nd rfl (.inl rfl) (pe_tup (pa_cons pe_str (pa_cons (v_ 10) pa_nil))))) pss_nil) (Evl.pss_cut (ps_if (pt_c (eqK K hr.units) (v_ 9) (v_ 6)) (pss_one (ps_set (i := 11) sc__law_refused.nd rfl (.inl rfl) (pe_tup (pa_cons pe_str (pa_cons (v_ 9) pa_nil))))) pss_nil) (Evl.pss_cut (ps_if (pt_c (eqK K hr.units) (v_ 8) (v_ 5)) (pss_one (ps_set (i := 11) sc__law_refused.nd rfl (.inl rfl) (pe_tup (pa_cons pe_str (pa_cons (v_ 8) pa_nil))))) pss_nil) (pss_one (ps_if (pt_not (pt_t K (pe_call c__law_same.G (hr.mono (by first | decide | omega)) rfl c__law_same.m c__law_same.kp c__law_same.b .nil pass0 (pa_cons (pe_call c__law_made.G (hr.mono (by first | decide | omega)) rfl c__law_made.m c__law_made.kp c__law_made.b .nil pass0 (pa_cons (v_ 8) (pa_cons (v_ 9) (pa_cons (v_ 10) pa_nil)))) (pa_cons (v_ 11) pa_nil))))) (pss_one (ps_ret pe_bl)) pss_nil))))))))))) (pss_one (ps_ret pe_bl)))))), ?_⟩
  refine ⟨st, scr, z, k, rfl, hd, hz, fun H1 w b1 hd1 hw lw aw => ?_⟩
  refine ⟨(by show 14 ≤ sizeLine; decide), fun B nB => ?_⟩
  have sB := same_new (o := .lst (bads.map V.str)) nB
  have hB : (upd H1 B (.lst (bads.map V.str))) B = some (.lst (bads.map V.str)) := upd_same
  have b2 := b1.trans (Bt.same (st := st) sB)
  have hd2 := hd1.new sB
  have Bs : B ≠ st := hd1.ne_new nB
  refine ⟨st, scr, _, rfl, hd2, .inr ⟨B, _, rfl, hB, Bs, (by show 0 < 14; decide), (by show 14 ≤ 1000; decide), fun x l hx hd3 => ?_⟩⟩
  obtain ⟨bs, hbs, rfl⟩ := List.mem_map.mp hx
  have b3 := b2.trans (Bt.st (st := st) (o := .lst l))
  generalize hH3 : upd (upd H1 B _) st _ = H3 at hd3 ⊢
  replace b3 : Bt st H H3 := by rw [← hH3]; exact b3
  clear hH3
  refine ⟨st, scr, rfl, hd3, fun H4 bn b4 hd4 bn1 bn2 => ?_⟩
  have b5 := b3.trans b4
  clear b1 b2 b3 b4 hd1 hd2 hd3 sB hB nB Bs hx
  have hbn : inB bn = false := inB_out bn1
  obtain ⟨nbs, lbs, abs⟩ := bads_bad bs hbs
  have e200 := bd_small hn
  refine ⟨(by show 2 ≤ sizeLine; decide), fun F nF => ?_⟩
  generalize hF0 : upd H4 F _ = H5
  have sF : Same H4 H5 := by rw [← hF0]; exact same_new nF
  have b6 := b5.trans (Bt.same (st := st) sF)
  have hd6 := hd4.new sF
  have hF : H5 F = some (.lst (([z, w] : List Str).map V.str)) := by rw [← hF0]; exact upd_same
  clear hF0
  refine ⟨F, rfl, ⟨_, SqL.of hF⟩, ?_⟩
  refine for_list (K := K) (a := F) (xs := [z, w].map V.str) (fun i σ' H' => (∃ (u v x y : Option V), σ' = [some (.ref st), some (.str z), some (.str s), some (.int n), some (.int k), some (.str w), some (.str bs), some (.int bn), u, v, x, y]) ∧ Same H5 H') ⟨⟨_, _, _, _, rfl⟩, Same.refl _⟩ (fun i σ' H' _ h => SqL.of (h.2 _ _ hF)) ?_ ?_
  · rintro i v σ' H6 hi ⟨⟨u, x1, x2, x3, rfl⟩, s6⟩
    rw [List.getElem?_map] at hi
    obtain ⟨f, hf, rfl⟩ := Option.map_eq_some_iff.mp hi
    have hfm : f = z ∨ f = w := by
      have := List.mem_of_getElem? hf
      simpa using this
    have hfl : f.length ≤ 1000 ∧ Asc f := by
      rcases hfm with rfl | rfl
      · exact ⟨by have := (isName_mem hz).2.2.1; omega, isName_asc hz⟩
      · exact ⟨by omega, aw⟩
    refine ⟨(by show 2 ≤ sizeLine; decide), fun G nG => ?_⟩
    generalize hG0 : upd H6 G _ = H7
    have sG : Same H5 H7 := by rw [← hG0]; exact s6.trans (same_new nG)
    have hG : H7 G = some (.lst (([s, bs] : List Str).map V.str)) := by rw [← hG0]; exact upd_same
    clear hG0
    refine ⟨G, rfl, ⟨_, SqL.of hG⟩, ?_⟩
    refine for_list (K := K) (a := G) (xs := [s, bs].map V.str) (fun i σ' H' => (∃ (v x y : Option V), σ' = [some (.ref st), some (.str z), some (.str s), some (.int n), some (.int k), some (.str w), some (.str bs), some (.int bn), some (.str f), v, x, y]) ∧ Same H7 H') ⟨⟨_, _, _, rfl⟩, Same.refl _⟩ (fun i σ' H' _ h => SqL.of (h.2 _ _ hG)) ?_ ?_
    · rintro i v σ' H8 hi ⟨⟨x1, x2, x3, rfl⟩, s8⟩
      rw [List.getElem?_map] at hi
      obtain ⟨g, hg, rfl⟩ := Option.map_eq_some_iff.mp hi
      have hgm : g = s ∨ g = bs := by
        have := List.mem_of_getElem? hg
        simpa using this
      have hgl : g.length ≤ 1000 ∧ Asc g := by
        rcases hgm with rfl | rfl
        · exact signs_asc _ hs
        · exact ⟨lbs, abs⟩
      refine ⟨(by show 2 ≤ sizeLine; decide), fun L nL => ?_⟩
      generalize hL0 : upd H8 L _ = H9
      have sL : Same H7 H9 := by rw [← hL0]; exact s8.trans (same_new nL)
      have hL : H9 L = some (.lst (([n, bn] : List Int).map V.int)) := by rw [← hL0]; exact upd_same
      clear hL0
      refine ⟨L, rfl, ⟨_, SqL.of hL⟩, ?_⟩
      refine for_list (K := K) (a := L) (xs := [n, bn].map V.int) (fun i σ' H' => (∃ (x y : Option V), σ' = [some (.ref st), some (.str z), some (.str s), some (.int n), some (.int k), some (.str w), some (.str bs), some (.int bn), some (.str f), some (.str g), x, y]) ∧ Same H9 H') ⟨⟨_, _, rfl⟩, Same.refl _⟩ (fun i σ' H' _ h => SqL.of (h.2 _ _ hL)) ?_ ?_
      · rintro i v σ' H10 hi ⟨⟨x1, x2, rfl⟩, s10⟩
        rw [List.getElem?_map] at hi
        obtain ⟨m, hm, rfl⟩ := Option.map_eq_some_iff.mp hi
        have hmm : m = n ∨ m = bn := by
          have := List.mem_of_getElem? hm
          simpa using this
        have hml : m.natAbs < 2 ^ 200 := by
          rcases hmm with rfl | rfl
          · exact e200
          · exact bn2
        refine ⟨(by show 4 ≤ sizeLine; decide), fun t1 n1 => ?_⟩
        have s1 := same_new (o := .tup [.str "compare", .str f, .str g, .int m]) n1
        have h1 : TcAt _ t1 f g m := upd_same (H := H10) (a := t1) (o := .tup [.str "compare", .str f, .str g, .int m])
        generalize upd H10 t1 (.tup [.str "compare", .str f, .str g, .int m]) = H11 at s1 h1 ⊢
        refine ⟨(by show 2 ≤ sizeLine; decide), fun t2 n2 => ?_⟩
        have s2 := same_new (o := .tup [.str "let", .ref t1]) n2
        have h2 := upd_same (H := H11) (a := t2) (o := .tup [.str "let", .ref t1])
        have h1 := h1.same s2
        have s12 := (s10.trans s1).trans s2
        generalize upd H11 t2 (.tup [.str "let", .ref t1]) = H12 at s12 h1 h2 ⊢
        refine ⟨fun σ' H' => ∃ t : Addr, σ' = [some (.ref st), some (.str z), some (.str s), some (.int n), some (.int k), some (.str w), some (.str bs), some (.int bn), some (.str f), some (.str g), some (.int m), some (.ref t)] ∧ Same H12 H' ∧ Due1 H' t f g m, ?_, ?_⟩
        · refine ite2 (fun e => ?_) (fun e => ?_)
          · have e : m = bn := of_decide_eq_true e
            refine ⟨(by show 2 ≤ sizeLine; decide), fun t4 n4 => ?_⟩
            refine ⟨t4, rfl, same_new n4, ?_⟩
            unfold Due1
            rw [e, hbn, if_neg (by decide)]
            exact upd_same
          · have e : ¬ m = bn := of_decide_eq_false (Bool.eq_false_iff.mpr e)
            refine ⟨t2, rfl, Same.refl _, ?_⟩
            unfold Due1
            rw [hmm.resolve_right e, if_pos (inB_of hn), ← hmm.resolve_right e]
            exact ⟨t1, h2, h1⟩
        rintro σ' H13 ⟨t, rfl, s13, hT⟩
        refine ⟨fun σ' H' => ∃ t : Addr, σ' = [some (.ref st), some (.str z), some (.str s), some (.int n), some (.int k), some (.str w), some (.str bs), some (.int bn), some (.str f), some (.str g), some (.int m), some (.ref t)] ∧ Same H13 H' ∧ Due2 H' t f g m, ?_, ?_⟩
        · refine ite2 (fun e => ?_) (fun e => ?_)
          · have e : g = bs := of_decide_eq_true e
            refine ⟨(by show 2 ≤ sizeLine; decide), fun t4 n4 => ?_⟩
            refine ⟨t4, rfl, same_new n4, ?_⟩
            unfold Due2
            rw [e, if_neg nbs]
            exact upd_same
          · have e : ¬ g = bs := of_decide_eq_false (Bool.eq_false_iff.mpr e)
            refine ⟨t, rfl, Same.refl _, ?_⟩
            unfold Due2
            rw [hgm.resolve_right e, if_pos hs, ← hgm.resolve_right e]
            exact hT
        clear hT
        rintro σ' H14 ⟨t, rfl, s14, hT⟩
        refine ⟨fun σ' H' => ∃ t : Addr, σ' = [some (.ref st), some (.str z), some (.str s), some (.int n), some (.int k), some (.str w), some (.str bs), some (.int bn), some (.str f), some (.str g), some (.int m), some (.ref t)] ∧ Same H14 H' ∧ MadeAt H' t f g m, ?_, ?_⟩
        · refine ite2 (fun e => ?_) (fun e => ?_)
          · have e : f = w := of_decide_eq_true e
            refine ⟨(by show 2 ≤ sizeLine; decide), fun t4 n4 => ?_⟩
            refine ⟨t4, rfl, same_new n4, ?_⟩
            rw [MadeAt.due, e, hw, if_neg (by decide)]
            exact upd_same
          · have e : ¬ f = w := of_decide_eq_false (Bool.eq_false_iff.mpr e)
            refine ⟨t, rfl, Same.refl _, ?_⟩
            rw [MadeAt.due, hfm.resolve_right e, if_pos hz, ← hfm.resolve_right e]
            exact hT
        clear hT
        rintro σ' H15 ⟨t, rfl, s15, hT⟩
        refine ⟨f, g, m, rfl, hfl.1, hfl.2, hgl.1, hgl.2, hml, fun H16 t5 s16 n5 hM5 => ?_⟩
        refine ⟨_, _, rfl, made_same hM5 (hT.same s16), ?_⟩
        exact ⟨⟨_, _, rfl⟩, (((s12.trans s13).trans s14).trans s15).trans s16⟩
      · rintro σ' H10 ⟨⟨x1, x2, rfl⟩, s10⟩
        exact ⟨⟨_, _, _, rfl⟩, sL.trans s10⟩
    · rintro σ' H8 ⟨⟨x1, x2, x3, rfl⟩, s8⟩
      exact ⟨⟨_, _, _, _, rfl⟩, sG.trans s8⟩
  · rintro σ' H6 ⟨⟨u, x1, x2, x3, rfl⟩, s6⟩
    exact q _ (b6.trans (Bt.same s6)) (hd6.new s6)
end
section
variable {P : Program} {w : World} {K : PySem.W.Frag} {mg : Str → Option Value} {base : Heap}
variable {t_BOUND t_LETTERS t_LONGEST_NAME : Tok} {a_RESERVED a_SIGNS a_BadName a_BadNumber a_BadSign a_Condition a_ElseputError a_UnknownField : Addr}
def spLaw (K : PySem.W.Frag) : Sp := fun vs H Q _ => ∃ (a : Addr) (ns : List Int), vs = [.ref a] ∧ SqL K H a (ns.map V.int) ∧ ns.length ≤ 63 ∧ ∀ H', Q (.bl true) H'
abbrev sp_law := spLaw
theorem len_law {vs : List V} {H : Hp} {Q : VK} {E : XK} (h : sp_law K vs H Q E) : vs.length = 1 := by
  obtain ⟨_, _, rfl, _⟩ := h
  rfl
theorem ok_law {f : Addr} {fd : FuncData} {f__law_state : Addr} {fd__law_state : FuncData} {f__law_names : Addr} {fd__law_names : FuncData} {f__law_number : Addr} {fd__law_number : FuncData} {f__law_asked : Addr} {fd__law_asked : FuncData} {f__law_refused : Addr} {fd__law_refused : FuncData} {f__law_same : Addr} {fd__law_same : FuncData} {f__law_pick : Addr} {fd__law_pick : FuncData} {f__law_made : Addr} {fd__law_made : FuncData} (F : Fun K "law" "law" s_law f fd) (T : Gs K mg t_BOUND t_LETTERS t_LONGEST_NAME a_RESERVED a_SIGNS a_BadName a_BadNumber a_BadSign a_Condition a_ElseputError a_UnknownField) (c__law_state : Cal P w K mg base CX0 1 "_law_state" f__law_state fd__law_state ["_law_script"] (sp__law_state K)) (c__law_names : Cal P w K mg base CX0 2 "_law_names" f__law_names fd__law_names ["_law_state_here", "_law_many"] (sp__law_names K)) (c__law_number : Cal P w K mg base CX0 2 "_law_number" f__law_number fd__law_number ["_law_state_here"] (sp__law_number K)) (c__law_asked : Cal P w K mg base CX0 9 "_law_asked" f__law_asked fd__law_asked ["_law_field", "_law_sign", "_law_number_here", "_law_other_field", "_law_values"] (sp__law_asked K)) (c__law_refused : Cal P w K mg base CX0 9 "_law_refused" f__law_refused fd__law_refused ["_law_state_here", "_law_name", "_law_sign", "_law_number_here", "_law_kind"] (sp__law_refused K)) (c__law_same : Cal P w K mg base CX0 6 "_law_same" f__law_same fd__law_same ["_law_actual", "_law_due"] (sp__law_same K)) (c__law_pick : Cal P w K mg base CX0 2 "_law_pick" f__law_pick fd__law_pick ["_law_state_here", "_law_row"] (sp__law_pick K)) (c__law_made : Cal P w K mg base CX0 5 "_law_made" f__law_made fd__law_made ["_law_field", "_law_sign", "_law_number_here"] (sp__law_made K)) : FnOk P w K mg base CX0 12 f fd ["_law_script"] (sp_law K) := by
  refine F.ok sc_law (fun vs H Q E h => len_law h) (fun cdv A outer s H vs Q E hr h => ?_)
  obtain ⟨s0, ns0, rfl, hS, hl, q⟩ := h
  refine ⟨_, (pss_cons (ps_set (i := 1) sc_law.nd rfl (.inl rfl) (pe_call c__law_state.G (hr.mono (by first | decide | omega)) rfl c__law_state.m c__law_state.kp c__law_state.b .nil pass0 (pa_cons (v_ 0) pa_nil))) (pss_cons (ps_set (i := 2) sc_law.nd rfl (.inl rfl) (pe_call c__law_names.G (hr.mono (by first | decide | omega)) rfl c__law_names.m c__law_names.kp c__law_names.b .nil pass0 (pa_cons (v_ 1) (pa_cons pe_int pa_nil)))) (pss_cons (ps_set (i := 3) sc_law.nd rfl (.inl rfl) (pe_call c__law_number.G (hr.mono (by first | decide | omega)) rfl c__law_number.m c__law_number.kp c__law_number.b .nil pass0 (pa_cons (v_ 1) pa_nil))) (pss_cons (ps_set (i := 4) sc_law.nd rfl (.inl rfl) (pe_call c__law_number.G (hr.mono (by first | decide | omega)) rfl c__law_number.m c__law_number.kp c__law_number.b .nil pass0 (pa_cons (v_ 1) pa_nil))) (pss_cons (ps_set (i := 5) sc_law.nd rfl (.inl rfl) (pe_lst (pa_cons pe_str (pa_cons pe_str (pa_cons pe_str (pa_cons pe_str (pa_cons pe_str (pa_cons pe_str pa_nil)))))))) (pss_cons (ps_for PassesOwn.never rfl (pi_list (v_ 5)) (pg_name (i := 6) sc_law.nd rfl (.inl rfl)) (pss_one (ps_if (pt_not (pt_t K (pe_call c__law_asked.G (hr.mono (by first | decide | omega)) rfl c__law_asked.m c__law_asked.kp c__law_asked.b .nil pass0 (pa_cons (e_x K (v_ 2) pe_int) (pa_cons (v_ 6) (pa_cons (v_ 3) (pa_cons (e_x K (v_ 2) pe_int) (pa_cons (pe_lst (pa_cons (v_ 4) (pa_cons (pe_op op_subM (v_ 3) pe_int) (pa_cons (v_ 3) (pa_cons (pe_op (addK K) (v_ 3) pe_int) (pa_cons (pe_un un_negM (v_ 3)) pa_nil)))))) pa_nil)))))))) (pss_one (ps_ret pe_bl)) pss_nil))) (pss_cons (ps_for PassesOwn.never rfl (pi_range1 rfl T.z_range (pa_cons pe_int pa_nil)) (pg_name (i := 7) sc_law.nd rfl (.inl rfl)) (pss_one (ps_if (pt_not (pt_t K (pe_call c__law_refused.G (hr.mono (by first | decide | omega)) rfl c__law_refused.m c__law_refused.kp c__law_refused.b .nil pass0 (pa_cons (v_ 1) (pa_cons (e_x K (v_ 2) pe_int) (pa_cons (pe_call c__law_pick.G (hr.mono (by first | decide | omega)) rfl c__law_pick.m c__law_pick.kp c__law_pick.b .nil pass0 (pa_cons (v_ 1) (pa_cons (v_ 5) pa_nil))) (pa_cons (v_ 3) (pa_cons (v_ 7) pa_nil)))))))) (pss_one (ps_ret pe_bl)) pss_nil))) (pss_cons (ps_for PassesOwn.never rfl (pi_list (pe_lst (pa_cons (pe_op op_powM pe_int pe_int) (pa_cons (pe_un un_negM (pe_op op_powM pe_int pe_int)) pa_nil)))) (pg_name (i := 8) sc_law.nd rfl (.inl rfl)) (pss_one (ps_if (pt_not (pt_t K (pe_call c__law_same.G (hr.mono (by first | decide | omega)) rfl c__law_same.m c__law_same.kp c__law_same.b .nil pass0 (pa_cons (pe_call c__law_made.G (hr.mono (by first | decide | omega)) rfl c__law_made.m c__law_made.kp c__law_made.b .nil pass0 (pa_cons (e_x K (v_ 2) pe_int) (pa_cons pe_str (pa_cons (v_ 8) pa_nil)))) (pa_cons (pe_tup (pa_cons pe_str (pa_cons (pe_tup (pa_cons pe_str (pa_cons (e_x K (v_ 2) pe_int) (pa_cons pe_str (pa_cons (v_ 8) pa_nil))))) pa_nil))) pa_nil))))) (pss_one (ps_ret pe_bl)) pss_nil))) (pss_cons (ps_for PassesOwn.never rfl (pi_list (pe_lst (pa_cons (pe_op (addK K) (pe_op op_powM pe_int pe_int) pe_int) (pa_cons (pe_op op_subM (pe_un un_negM (pe_op op_powM pe_int pe_int)) pe_int) pa_nil)))) (pg_name (i := 8) sc_law.nd rfl (.inl rfl)) (pss_one (ps_if (pt_not (pt_t K (pe_call c__law_same.G (hr.mono (by first | decide | omega)) rfl c__law_same.m c__law_same.kp c__law_same.b .nil pass0 (pa_cons (pe_call c__law_made.G (hr.mono (by first | decide | omega)) rfl c__law_made.m c__law_made.kp c__law_made.b .nil pass0 (pa_cons (e_x K (v_ 2) pe_int) (pa_cons pe_str (pa_cons (v_ 8) pa_nil)))) (pa_cons (pe_tup (pa_cons pe_str (pa_cons (v_ 8) pa_nil))) pa_nil))))) (pss_one (ps_ret pe_bl)) pss_nil))) (pss_one (ps_ret pe_bl))))))))))), ?_⟩
  refine ⟨s0, ns0, rfl, hS, hl, fun H1 st scr sm fs fc hd => ?_⟩
  refine ⟨st, scr, 2, rfl, hd, by decide, fun H2 N zs b2 hd2 nN hN zl zn znd => ?_⟩
  have Ns : N ≠ st := hd.ne_new nN
  obtain ⟨z0, z1, rfl⟩ : ∃ z0 z1, zs = [z0, z1] := by
    match zs, zl with
    | [z0, z1], _ => exact ⟨z0, z1, rfl⟩
  have hz0 := zn z0 (by simp)
  have hz1 := zn z1 (by simp)
  clear b2 hd sm nN znd zl zn
  refine ⟨st, scr, rfl, hd2, fun l n hn hd3 => ?_⟩
  have hN3 : (upd H2 st (.lst l)) N = some (.lst ([z0, z1].map V.str)) := by rw [upd_ne Ns]; exact hN
  generalize upd H2 st (.lst l) = H3 at hd3 hN3 ⊢
  refine ⟨st, scr, rfl, hd3, fun l m hm hd4 => ?_⟩
  have hN4 : (upd H3 st (.lst l)) N = some (.lst ([z0, z1].map V.str)) := by rw [upd_ne Ns]; exact hN3
  generalize upd H3 st (.lst l) = H4 at hd4 hN4 ⊢
  clear hd2 hd3 hN hN3
  refine ⟨(by show 6 ≤ sizeLine; decide), fun L nL => ?_⟩
  have Ls : L ≠ st := hd4.ne_new nL
  generalize hH5 : upd H4 L _ = H5
  have s5 : Same H4 H5 := by rw [← hH5]; exact same_new nL
  have hL : H5 L = some (.lst (signs.map V.str)) := by rw [← hH5]; exact upd_same
  have hN5 := s5 _ _ hN4
  have hd5 := hd4.new s5
  clear hH5 s5 nL hN4 hd4
  have iN0 : atI ([z0, z1].map V.str) (0 : Int) = some (.str z0) := rfl
  have iN1 : atI ([z0, z1].map V.str) (1 : Int) = some (.str z1) := rfl
  refine ⟨L, rfl, ⟨_, SqL.of hL⟩, ?_⟩
  refine for_list (K := K) (a := L) (xs := signs.map V.str) (fun i σ' H' => (∃ y : Option V, σ' = [some (.ref s0), some (.ref st), some (.ref N), some (.int n), some (.int m), some (.ref L), y, none, none]) ∧ Same H5 H') ⟨⟨_, rfl⟩, Same.refl _⟩ (fun i σ' H' _ h => SqL.of (h.2 _ _ hL)) ?_ ?_
  · rintro i v σ' H6 hi ⟨⟨y, rfl⟩, s6⟩
    rw [List.getElem?_map] at hi
    obtain ⟨s, hs, rfl⟩ := Option.map_eq_some_iff.mp hi
    refine ⟨_, .inl (SqL.of (s6 _ _ hN5)), .str z0, iN0, _, .inl (SqL.of (s6 _ _ hN5)), .str z1, iN1, (by show 5 ≤ sizeLine; decide), fun P nP => ?_⟩
    generalize hH7 : upd H6 P _ = H7
    have s7 : Same H6 H7 := by rw [← hH7]; exact same_new nP
    have hP : H7 P = some (.lst ([m, n - 1, n, n + 1, -n].map V.int)) := by rw [← hH7]; exact upd_same
    refine ⟨z0, s, z1, n, P, _, rfl, hP, (by show 0 < 5; decide), hz0.1, List.mem_of_getElem? hs, hn, fun H8 s8 => ?_⟩
    refine ite2 (fun e => nomatch e) (fun _ => ?_)
    exact ⟨⟨_, rfl⟩, (s6.trans s7).trans s8⟩
  rintro σ' H6 ⟨⟨y, rfl⟩, s6⟩
  have hN6 := s6 _ _ hN5
  have hL6 := s6 _ _ hL
  have hd6 := hd5.new s6
  clear s6 hN5 hL hd5
  refine ⟨4, rfl, by decide, by decide, ?_⟩
  refine for_range (lo := 0) (n := 4) (fun i σ' H' => (∃ x : Option V, σ' = [some (.ref s0), some (.ref st), some (.ref N), some (.int n), some (.int m), some (.ref L), y, x, none]) ∧ DrAt H' st scr ∧ H' N = some (.lst ([z0, z1].map V.str)) ∧ H' L = some (.lst (signs.map V.str))) ⟨⟨_, rfl⟩, hd6, hN6, hL6⟩ ?_ ?_
  · rintro i σ' H' hi ⟨⟨x, rfl⟩, hdd, hNN, hLL⟩
    refine ⟨_, .inl (SqL.of hNN), .str z0, iN0, ?_⟩
    refine ⟨st, scr, _, rfl, hdd, .inr ⟨L, _, rfl, hLL, Ls, (by show 0 < 6; decide), (by show 6 ≤ 1000; decide), fun v l hv hd' => ?_⟩⟩
    obtain ⟨s, hs, rfl⟩ := List.mem_map.mp hv
    refine ⟨st, scr, z0, s, n, _, rfl, hd', hz0.1, hs, hn, fun H8 b8 hd8 => ?_⟩
    refine ite2 (fun e => nomatch e) (fun _ => ?_)
    exact ⟨⟨_, rfl⟩, hd8, b8 _ _ Ns (by rw [upd_ne Ns]; exact hNN), b8 _ _ Ls (by rw [upd_ne Ls]; exact hLL)⟩
  rintro σ' H7 ⟨⟨x, rfl⟩, hd7, hN7, hL7⟩
  have l1 : z1.length ≤ 1000 := by have := hz1.2; omega
  have a1 := isName_asc hz1.1
  have sle : ("<=" : Str).length ≤ 1000 ∧ Asc "<=" ∧ ("<=" : Str) ∈ signs := ⟨(signs_asc "<=" (by decide)).1, (signs_asc "<=" (by decide)).2, by decide⟩
  have sgt : (">" : Str).length ≤ 1000 ∧ Asc ">" ∧ (">" : Str) ∈ signs := ⟨(signs_asc ">" (by decide)).1, (signs_asc ">" (by decide)).2, by decide⟩
  refine ⟨(by unfold CPow; decide), (by unfold CPow; decide), (by show 2 ≤ sizeLine; decide), fun P nP => ?_⟩
  rw [p30] at *
  generalize hH8 : upd H7 P _ = H8
  have s8 : Same H7 H8 := by rw [← hH8]; exact same_new nP
  have hP : H8 P = some (.lst (([1000000000000000000000000000000, -1000000000000000000000000000000] : List Int).map V.int)) := by rw [← hH8]; exact upd_same
  have hN8 := s8 _ _ hN7
  clear hH8 nP hd7 hN7 hL7 s8
  have bin : ∀ v ∈ ([1000000000000000000000000000000, -1000000000000000000000000000000] : List Int), inB v = true ∧ v.natAbs < 2 ^ 200 := by decide +kernel
  generalize ([1000000000000000000000000000000, -1000000000000000000000000000000] : List Int) = us at hP bin
  refine ⟨P, rfl, ⟨_, SqL.of hP⟩, ?_⟩
  refine for_list (K := K) (a := P) (xs := us.map V.int) (fun i σ' H' => (∃ w : Option V, σ' = [some (.ref s0), some (.ref st), some (.ref N), some (.int n), some (.int m), some (.ref L), y, x, w]) ∧ Same H8 H') ⟨⟨_, rfl⟩, Same.refl _⟩ (fun i σ' H' _ h => SqL.of (h.2 _ _ hP)) ?_ ?_
  · rintro i v σ' H9 hi ⟨⟨w, rfl⟩, s9⟩
    rw [List.getElem?_map] at hi
    obtain ⟨v, hv, rfl⟩ := Option.map_eq_some_iff.mp hi
    obtain ⟨v1, v2⟩ := bin v (List.mem_of_getElem? hv)
    refine ⟨_, .inl (SqL.of (s9 _ _ hN8)), .str z1, iN1, ?_⟩
    refine ⟨z1, "<=", v, rfl, l1, a1, sle.1, sle.2.1, v2, fun H10 t s10 nt hT => ?_⟩
    have sx := s9.trans s10
    refine ⟨_, .inl (SqL.of (sx _ _ hN8)), .str z1, iN1, (by show 4 ≤ sizeLine; decide), fun t1 n1 => ?_⟩
    have s1 := same_new (o := .tup [.str "compare", .str z1, .str "<=", .int v]) n1
    have h1 : TcAt _ t1 z1 "<=" v := upd_same (H := H10) (a := t1) (o := .tup [.str "compare", .str z1, .str "<=", .int v])
    generalize upd H10 t1 (.tup [.str "compare", .str z1, .str "<=", .int v]) = H11 at s1 h1 ⊢
    refine ⟨(by show 2 ≤ sizeLine; decide), fun t2 n2 => ?_⟩
    have s2 := same_new (o := .tup [.str "let", .ref t1]) n2
    have h2 := upd_same (H := H11) (a := t2) (o := .tup [.str "let", .ref t1])
    have h1 := h1.same s2
    generalize upd H11 t2 (.tup [.str "let", .ref t1]) = H12 at s2 h1 h2 ⊢
    have hT2 : MadeAt H12 t2 z1 "<=" v := by
      unfold MadeAt
      rw [if_pos hz1.1, if_pos sle.2.2, if_pos v1]
      exact ⟨t1, h2, h1⟩
    refine ⟨_, _, rfl, made_same (hT.same (s1.trans s2)) hT2, ?_⟩
    refine ite2 (fun e => nomatch e) (fun _ => ?_)
    exact ⟨⟨_, rfl⟩, (sx.trans s1).trans s2⟩
  rintro σ' H9 ⟨⟨w, rfl⟩, s9⟩
  have hN9 := s9 _ _ hN8
  clear hP bin hN8 s9 iN0
  refine ⟨(by unfold CPow; decide), (by unfold CPow; decide), (by show 2 ≤ sizeLine; decide), fun P2 nP => ?_⟩
  rw [p30] at *
  generalize hH10 : upd H9 P2 _ = H10
  have s10 : Same H9 H10 := by rw [← hH10]; exact same_new nP
  have hP : H10 P2 = some (.lst (([1000000000000000000000000000000 + 1, -1000000000000000000000000000000 - 1] : List Int).map V.int)) := by rw [← hH10]; exact upd_same
  have hN10 := s10 _ _ hN9
  clear hH10 nP hN9 s10
  have bin : ∀ v ∈ ([1000000000000000000000000000000 + 1, -1000000000000000000000000000000 - 1] : List Int), inB v = false ∧ v.natAbs < 2 ^ 200 := by decide +kernel
  generalize ([1000000000000000000000000000000 + 1, -1000000000000000000000000000000 - 1] : List Int) = us2 at hP bin
  refine ⟨P2, rfl, ⟨_, SqL.of hP⟩, ?_⟩
  refine for_list (K := K) (a := P2) (xs := us2.map V.int) (fun i σ' H' => (∃ w : Option V, σ' = [some (.ref s0), some (.ref st), some (.ref N), some (.int n), some (.int m), some (.ref L), y, x, w]) ∧ Same H10 H') ⟨⟨_, rfl⟩, Same.refl _⟩ (fun i σ' H' _ h => SqL.of (h.2 _ _ hP)) ?_ ?_
  · rintro i v σ' H11 hi ⟨⟨w, rfl⟩, s11⟩
    rw [List.getElem?_map] at hi
    obtain ⟨v, hv, rfl⟩ := Option.map_eq_some_iff.mp hi
    obtain ⟨v1, v2⟩ := bin v (List.mem_of_getElem? hv)
    refine ⟨_, .inl (SqL.of (s11 _ _ hN10)), .str z1, iN1, ?_⟩
    refine ⟨z1, ">", v, rfl, l1, a1, sgt.1, sgt.2.1, v2, fun H12 t s12 nt hT => ?_⟩
    refine ⟨(by show 2 ≤ sizeLine; decide), fun t2 n2 => ?_⟩
    have s2 := same_new (o := .tup [.str "number", .int v]) n2
    have hT2 : MadeAt (upd H12 t2 (.tup [.str "number", .int v])) t2 z1 ">" v := by
      unfold MadeAt
      rw [if_pos hz1.1, if_pos sgt.2.2, v1, if_neg (by decide)]
      exact upd_same
    refine ⟨_, _, rfl, made_same (hT.same s2) hT2, ?_⟩
    refine ite2 (fun e => nomatch e) (fun _ => ?_)
    exact ⟨⟨_, rfl⟩, (s11.trans s12).trans s2⟩
  rintro σ' H11 ⟨⟨w, rfl⟩, s11⟩
  exact q _
end
theorem all_mk {l : PySem.W.OpenLaw} {w : World} {K : PySem.W.Frag} {h : Heap} {mg : Str → Option Value} {fa : Addr} {t_BOUND t_LETTERS t_LONGEST_NAME : Tok} {a_RESERVED a_SIGNS a_BadName a_BadNumber a_BadSign a_Condition a_ElseputError a_UnknownField : Addr} {u_Condition_MOST : Tok} {f_is_name f_in_bound f_check_name f_check_number f_comparisons f_sign_holds f_holds f__law_state f__law_draw f__law_pick f__law_number f__law_names f__law_is_int f__law_same f__law_holds f__law_reserved f__law_bad_name f__law_bad_number f_Condition___init__ f_Condition_compare f__law_made f_Condition_fields f_Condition_size f_Condition___call__ f__law_asked f__law_refused f_law : Addr} {od_is_name an_is_name : Option Addr} {sl_is_name : Array (Option Value)} {oc_is_name kV_is_name dc_is_name pm_is_name cd_is_name ct_is_name : Value} {od_in_bound an_in_bound : Option Addr} {sl_in_bound : Array (Option Value)} {oc_in_bound kV_in_bound dc_in_bound pm_in_bound cd_in_bound ct_in_bound : Value} {od_check_name an_check_name : Option Addr} {sl_check_name : Array (Option Value)} {oc_check_name kV_check_name dc_check_name pm_check_name cd_check_name ct_check_name : Value} {od_check_number an_check_number : Option Addr} {sl_check_number : Array (Option Value)} {oc_check_number kV_check_number dc_check_number pm_check_number cd_check_number ct_check_number : Value} {od_comparisons an_comparisons : Option Addr} {sl_comparisons : Array (Option Value)} {oc_comparisons kV_comparisons dc_comparisons pm_comparisons cd_comparisons ct_comparisons : Value} {od_sign_holds an_sign_holds : Option Addr} {sl_sign_holds : Array (Option Value)} {oc_sign_holds kV_sign_holds dc_sign_holds pm_sign_holds cd_sign_holds ct_sign_holds : Value} {od_holds an_holds : Option Addr} {sl_holds : Array (Option Value)} {oc_holds kV_holds dc_holds pm_holds cd_holds ct_holds : Value} {od__law_state an__law_state : Option Addr} {sl__law_state : Array (Option Value)} {oc__law_state kV__law_state dc__law_state pm__law_state cd__law_state ct__law_state : Value} {od__law_draw an__law_draw : Option Addr} {sl__law_draw : Array (Option Value)} {oc__law_draw kV__law_draw dc__law_draw pm__law_draw cd__law_draw ct__law_draw : Value} {od__law_pick an__law_pick : Option Addr} {sl__law_pick : Array (Option Value)} {oc__law_pick kV__law_pick dc__law_pick pm__law_pick cd__law_pick ct__law_pick : Value} {od__law_number an__law_number : Option Addr} {sl__law_number : Array (Option Value)} {oc__law_number kV__law_number dc__law_number pm__law_number cd__law_number ct__law_number : Value} {od__law_names an__law_names : Option Addr} {sl__law_names : Array (Option Value)} {oc__law_names kV__law_names dc__law_names pm__law_names cd__law_names ct__law_names : Value} {od__law_is_int an__law_is_int : Option Addr} {sl__law_is_int : Array (Option Value)} {oc__law_is_int kV__law_is_int dc__law_is_int pm__law_is_int cd__law_is_int ct__law_is_int : Value} {od__law_same an__law_same : Option Addr} {sl__law_same : Array (Option Value)} {oc__law_same kV__law_same dc__law_same pm__law_same cd__law_same ct__law_same : Value} {od__law_holds an__law_holds : Option Addr} {sl__law_holds : Array (Option Value)} {oc__law_holds kV__law_holds dc__law_holds pm__law_holds cd__law_holds ct__law_holds : Value} {od__law_reserved an__law_reserved : Option Addr} {sl__law_reserved : Array (Option Value)} {oc__law_reserved kV__law_reserved dc__law_reserved pm__law_reserved cd__law_reserved ct__law_reserved : Value} {od__law_bad_name an__law_bad_name : Option Addr} {sl__law_bad_name : Array (Option Value)} {oc__law_bad_name kV__law_bad_name dc__law_bad_name pm__law_bad_name cd__law_bad_name ct__law_bad_name : Value} {od__law_bad_number an__law_bad_number : Option Addr} {sl__law_bad_number : Array (Option Value)} {oc__law_bad_number kV__law_bad_number dc__law_bad_number pm__law_bad_number cd__law_bad_number ct__law_bad_number : Value} {od_Condition___init__ an_Condition___init__ : Option Addr} {sl_Condition___init__ : Array (Option Value)} {oc_Condition___init__ kV_Condition___init__ dc_Condition___init__ pm_Condition___init__ cd_Condition___init__ ct_Condition___init__ : Value} {p_Condition_compare : Addr} {r_Condition_compare : List Value} {od_Condition_compare an_Condition_compare : Option Addr} {sl_Condition_compare : Array (Option Value)} {oc_Condition_compare kV_Condition_compare dc_Condition_compare pm_Condition_compare cd_Condition_compare ct_Condition_compare : Value} {od__law_made an__law_made : Option Addr} {sl__law_made : Array (Option Value)} {oc__law_made kV__law_made dc__law_made pm__law_made cd__law_made ct__law_made : Value} {p_Condition_fields : Addr} {r_Condition_fields : List Value} {od_Condition_fields an_Condition_fields : Option Addr} {sl_Condition_fields : Array (Option Value)} {oc_Condition_fields kV_Condition_fields dc_Condition_fields pm_Condition_fields cd_Condition_fields ct_Condition_fields : Value} {p_Condition_size : Addr} {r_Condition_size : List Value} {od_Condition_size an_Condition_size : Option Addr} {sl_Condition_size : Array (Option Value)} {oc_Condition_size kV_Condition_size dc_Condition_size pm_Condition_size cd_Condition_size ct_Condition_size : Value} {od_Condition___call__ an_Condition___call__ : Option Addr} {sl_Condition___call__ : Array (Option Value)} {oc_Condition___call__ kV_Condition___call__ dc_Condition___call__ pm_Condition___call__ cd_Condition___call__ ct_Condition___call__ : Value} {od__law_asked an__law_asked : Option Addr} {sl__law_asked : Array (Option Value)} {oc__law_asked kV__law_asked dc__law_asked pm__law_asked cd__law_asked ct__law_asked : Value} {od__law_refused an__law_refused : Option Addr} {sl__law_refused : Array (Option Value)} {oc__law_refused kV__law_refused dc__law_refused pm__law_refused cd__law_refused ct__law_refused : Value} {od_law an_law : Option Addr} {sl_law : Array (Option Value)} {oc_law kV_law dc_law pm_law cd_law ct_law : Value} {od_RESERVED : Option Addr} {its_RESERVED : Array Value} {n_RESERVED : Nat} {sl_RESERVED : Array (Option Value)} {od_SIGNS : Option Addr} {its_SIGNS : Array Value} {n_SIGNS : Nat} {sl_SIGNS : Array (Option Value)} {f_BadName N_BadName cc_BadName cda_BadName : Addr} {nm_BadName q_BadName : Str} {bs_BadName bm_BadName : List Value} {sn_BadName : List Str} {sub_BadName : List Value} {ab_BadName : Bool} {col_BadName : Option Bool} {dd_BadName : Option Addr} {e0_BadName e1_BadName e2_BadName e3_BadName e5_BadName : Option Value} {oc_BadName doc_BadName pm_BadName ct_BadName ccl_BadName cl_BadName : Value} {od_BadName cdd_BadName cld_BadName : Option Addr} {osl_BadName ccs_BadName csl_BadName : Array (Option Value)} {vs_BadName : Array Value} {file_BadName : Str} {tf_BadName : Tok} {cdD_BadName : ClassData} {f_BadNumber N_BadNumber cc_BadNumber cda_BadNumber : Addr} {nm_BadNumber q_BadNumber : Str} {bs_BadNumber bm_BadNumber : List Value} {sn_BadNumber : List Str} {sub_BadNumber : List Value} {ab_BadNumber : Bool} {col_BadNumber : Option Bool} {dd_BadNumber : Option Addr} {e0_BadNumber e1_BadNumber e2_BadNumber e3_BadNumber e5_BadNumber : Option Value} {oc_BadNumber doc_BadNumber pm_BadNumber ct_BadNumber ccl_BadNumber cl_BadNumber : Value} {od_BadNumber cdd_BadNumber cld_BadNumber : Option Addr} {osl_BadNumber ccs_BadNumber csl_BadNumber : Array (Option Value)} {vs_BadNumber : Array Value} {file_BadNumber : Str} {tf_BadNumber : Tok} {cdD_BadNumber : ClassData} {f_BadSign N_BadSign cc_BadSign cda_BadSign : Addr} {nm_BadSign q_BadSign : Str} {bs_BadSign bm_BadSign : List Value} {sn_BadSign : List Str} {sub_BadSign : List Value} {ab_BadSign : Bool} {col_BadSign : Option Bool} {dd_BadSign : Option Addr} {e0_BadSign e1_BadSign e2_BadSign e3_BadSign e5_BadSign : Option Value} {oc_BadSign doc_BadSign pm_BadSign ct_BadSign ccl_BadSign cl_BadSign : Value} {od_BadSign cdd_BadSign cld_BadSign : Option Addr} {osl_BadSign ccs_BadSign csl_BadSign : Array (Option Value)} {vs_BadSign : Array Value} {file_BadSign : Str} {tf_BadSign : Tok} {cdD_BadSign : ClassData} {f_UnknownField N_UnknownField cc_UnknownField cda_UnknownField : Addr} {nm_UnknownField q_UnknownField : Str} {bs_UnknownField bm_UnknownField : List Value} {sn_UnknownField : List Str} {sub_UnknownField : List Value} {ab_UnknownField : Bool} {col_UnknownField : Option Bool} {dd_UnknownField : Option Addr} {e0_UnknownField e1_UnknownField e2_UnknownField e3_UnknownField e5_UnknownField : Option Value} {oc_UnknownField doc_UnknownField pm_UnknownField ct_UnknownField ccl_UnknownField cl_UnknownField : Value} {od_UnknownField cdd_UnknownField cld_UnknownField : Option Addr} {osl_UnknownField ccs_UnknownField csl_UnknownField : Array (Option Value)} {vs_UnknownField : Array Value} {file_UnknownField : Str} {tf_UnknownField : Tok} {cdD_UnknownField : ClassData} {D_UnknownField : Addr} (X : K.In h) (G : h.Ns mainGlobals mg) (hfa : mg "law" = some (.ref fa))
    (g_Condition : PySem.W.nsIn K mainGlobals "Condition" = some (some (.ref a_Condition)))
    (pg_Condition : PySem.W.plainGet K a_Condition Str.empty = true)
    (hx_Condition : PySem.W.hasDictIn K a_Condition = true)
    (po_Condition : PySem.W.plainOver K a_Condition = true)
    (st_Condition : PySem.W.findIn K (.ref a_Condition) "__setattr__" = some (some (.builtin "object.__setattr__")))
    (rr_Condition : PySem.W.readsIn K a_Condition (.type "type") = true)
    (rg_Condition : PySem.W.specialIn K (.ref a_Condition) "__getattribute__" = some (some (.builtin "type.__getattribute__")))
    (mi_Condition : PySem.W.makesIn K a_Condition = true)
    (ko_Condition : PySem.W.keepIn K (.ref a_Condition) = true)
    (sf_Condition : PySem.W.selfFirst K a_Condition = true)
    (na_Condition__fields : PySem.W.findIn K (.ref a_Condition) "_fields" = some none)
    (na_Condition_tree : PySem.W.findIn K (.ref a_Condition) "tree" = some none)
    (cv_Condition_MOST : PySem.W.findCls K (.ref a_Condition) (.type "type") "MOST" = some (.val (.int 8 u_Condition_MOST)))
    (a_is_name : PySem.W.nsIn K mainGlobals "is_name" = some (some (.ref f_is_name)))
    (l_is_name : K.lookup f_is_name = some ⟨oc_is_name, od_is_name, .func (PySem.W.fnOf "is_name" "is_name" (defArgs s_is_name) (defBody s_is_name) (defScope s_is_name) .none kV_is_name dc_is_name pm_is_name an_is_name cd_is_name ct_is_name), sl_is_name⟩)
    (c_is_name : PySem.W.codeIn K cd_is_name "is_name" = true)
    (k_is_name : PySem.W.keepIn K (.ref f_is_name) = true)
    (a_in_bound : PySem.W.nsIn K mainGlobals "in_bound" = some (some (.ref f_in_bound)))
    (l_in_bound : K.lookup f_in_bound = some ⟨oc_in_bound, od_in_bound, .func (PySem.W.fnOf "in_bound" "in_bound" (defArgs s_in_bound) (defBody s_in_bound) (defScope s_in_bound) .none kV_in_bound dc_in_bound pm_in_bound an_in_bound cd_in_bound ct_in_bound), sl_in_bound⟩)
    (c_in_bound : PySem.W.codeIn K cd_in_bound "in_bound" = true)
    (k_in_bound : PySem.W.keepIn K (.ref f_in_bound) = true)
    (a_check_name : PySem.W.nsIn K mainGlobals "check_name" = some (some (.ref f_check_name)))
    (l_check_name : K.lookup f_check_name = some ⟨oc_check_name, od_check_name, .func (PySem.W.fnOf "check_name" "check_name" (defArgs s_check_name) (defBody s_check_name) (defScope s_check_name) .none kV_check_name dc_check_name pm_check_name an_check_name cd_check_name ct_check_name), sl_check_name⟩)
    (c_check_name : PySem.W.codeIn K cd_check_name "check_name" = true)
    (k_check_name : PySem.W.keepIn K (.ref f_check_name) = true)
    (a_check_number : PySem.W.nsIn K mainGlobals "check_number" = some (some (.ref f_check_number)))
    (l_check_number : K.lookup f_check_number = some ⟨oc_check_number, od_check_number, .func (PySem.W.fnOf "check_number" "check_number" (defArgs s_check_number) (defBody s_check_number) (defScope s_check_number) .none kV_check_number dc_check_number pm_check_number an_check_number cd_check_number ct_check_number), sl_check_number⟩)
    (c_check_number : PySem.W.codeIn K cd_check_number "check_number" = true)
    (k_check_number : PySem.W.keepIn K (.ref f_check_number) = true)
    (a_comparisons : PySem.W.nsIn K mainGlobals "comparisons" = some (some (.ref f_comparisons)))
    (l_comparisons : K.lookup f_comparisons = some ⟨oc_comparisons, od_comparisons, .func (PySem.W.fnOf "comparisons" "comparisons" (defArgs s_comparisons) (defBody s_comparisons) (defScope s_comparisons) .none kV_comparisons dc_comparisons pm_comparisons an_comparisons cd_comparisons ct_comparisons), sl_comparisons⟩)
    (c_comparisons : PySem.W.codeIn K cd_comparisons "comparisons" = true)
    (k_comparisons : PySem.W.keepIn K (.ref f_comparisons) = true)
    (a_sign_holds : PySem.W.nsIn K mainGlobals "sign_holds" = some (some (.ref f_sign_holds)))
    (l_sign_holds : K.lookup f_sign_holds = some ⟨oc_sign_holds, od_sign_holds, .func (PySem.W.fnOf "sign_holds" "sign_holds" (defArgs s_sign_holds) (defBody s_sign_holds) (defScope s_sign_holds) .none kV_sign_holds dc_sign_holds pm_sign_holds an_sign_holds cd_sign_holds ct_sign_holds), sl_sign_holds⟩)
    (c_sign_holds : PySem.W.codeIn K cd_sign_holds "sign_holds" = true)
    (k_sign_holds : PySem.W.keepIn K (.ref f_sign_holds) = true)
    (a_holds : PySem.W.nsIn K mainGlobals "holds" = some (some (.ref f_holds)))
    (l_holds : K.lookup f_holds = some ⟨oc_holds, od_holds, .func (PySem.W.fnOf "holds" "holds" (defArgs s_holds) (defBody s_holds) (defScope s_holds) .none kV_holds dc_holds pm_holds an_holds cd_holds ct_holds), sl_holds⟩)
    (c_holds : PySem.W.codeIn K cd_holds "holds" = true)
    (k_holds : PySem.W.keepIn K (.ref f_holds) = true)
    (a__law_state : PySem.W.nsIn K mainGlobals "_law_state" = some (some (.ref f__law_state)))
    (l__law_state : K.lookup f__law_state = some ⟨oc__law_state, od__law_state, .func (PySem.W.fnOf "_law_state" "_law_state" (defArgs s__law_state) (defBody s__law_state) (defScope s__law_state) .none kV__law_state dc__law_state pm__law_state an__law_state cd__law_state ct__law_state), sl__law_state⟩)
    (c__law_state : PySem.W.codeIn K cd__law_state "_law_state" = true)
    (k__law_state : PySem.W.keepIn K (.ref f__law_state) = true)
    (a__law_draw : PySem.W.nsIn K mainGlobals "_law_draw" = some (some (.ref f__law_draw)))
    (l__law_draw : K.lookup f__law_draw = some ⟨oc__law_draw, od__law_draw, .func (PySem.W.fnOf "_law_draw" "_law_draw" (defArgs s__law_draw) (defBody s__law_draw) (defScope s__law_draw) .none kV__law_draw dc__law_draw pm__law_draw an__law_draw cd__law_draw ct__law_draw), sl__law_draw⟩)
    (c__law_draw : PySem.W.codeIn K cd__law_draw "_law_draw" = true)
    (k__law_draw : PySem.W.keepIn K (.ref f__law_draw) = true)
    (a__law_pick : PySem.W.nsIn K mainGlobals "_law_pick" = some (some (.ref f__law_pick)))
    (l__law_pick : K.lookup f__law_pick = some ⟨oc__law_pick, od__law_pick, .func (PySem.W.fnOf "_law_pick" "_law_pick" (defArgs s__law_pick) (defBody s__law_pick) (defScope s__law_pick) .none kV__law_pick dc__law_pick pm__law_pick an__law_pick cd__law_pick ct__law_pick), sl__law_pick⟩)
    (c__law_pick : PySem.W.codeIn K cd__law_pick "_law_pick" = true)
    (k__law_pick : PySem.W.keepIn K (.ref f__law_pick) = true)
    (a__law_number : PySem.W.nsIn K mainGlobals "_law_number" = some (some (.ref f__law_number)))
    (l__law_number : K.lookup f__law_number = some ⟨oc__law_number, od__law_number, .func (PySem.W.fnOf "_law_number" "_law_number" (defArgs s__law_number) (defBody s__law_number) (defScope s__law_number) .none kV__law_number dc__law_number pm__law_number an__law_number cd__law_number ct__law_number), sl__law_number⟩)
    (c__law_number : PySem.W.codeIn K cd__law_number "_law_number" = true)
    (k__law_number : PySem.W.keepIn K (.ref f__law_number) = true)
    (a__law_names : PySem.W.nsIn K mainGlobals "_law_names" = some (some (.ref f__law_names)))
    (l__law_names : K.lookup f__law_names = some ⟨oc__law_names, od__law_names, .func (PySem.W.fnOf "_law_names" "_law_names" (defArgs s__law_names) (defBody s__law_names) (defScope s__law_names) .none kV__law_names dc__law_names pm__law_names an__law_names cd__law_names ct__law_names), sl__law_names⟩)
    (c__law_names : PySem.W.codeIn K cd__law_names "_law_names" = true)
    (k__law_names : PySem.W.keepIn K (.ref f__law_names) = true)
    (a__law_is_int : PySem.W.nsIn K mainGlobals "_law_is_int" = some (some (.ref f__law_is_int)))
    (l__law_is_int : K.lookup f__law_is_int = some ⟨oc__law_is_int, od__law_is_int, .func (PySem.W.fnOf "_law_is_int" "_law_is_int" (defArgs s__law_is_int) (defBody s__law_is_int) (defScope s__law_is_int) .none kV__law_is_int dc__law_is_int pm__law_is_int an__law_is_int cd__law_is_int ct__law_is_int), sl__law_is_int⟩)
    (c__law_is_int : PySem.W.codeIn K cd__law_is_int "_law_is_int" = true)
    (k__law_is_int : PySem.W.keepIn K (.ref f__law_is_int) = true)
    (a__law_same : PySem.W.nsIn K mainGlobals "_law_same" = some (some (.ref f__law_same)))
    (l__law_same : K.lookup f__law_same = some ⟨oc__law_same, od__law_same, .func (PySem.W.fnOf "_law_same" "_law_same" (defArgs s__law_same) (defBody s__law_same) (defScope s__law_same) .none kV__law_same dc__law_same pm__law_same an__law_same cd__law_same ct__law_same), sl__law_same⟩)
    (c__law_same : PySem.W.codeIn K cd__law_same "_law_same" = true)
    (k__law_same : PySem.W.keepIn K (.ref f__law_same) = true)
    (a__law_holds : PySem.W.nsIn K mainGlobals "_law_holds" = some (some (.ref f__law_holds)))
    (l__law_holds : K.lookup f__law_holds = some ⟨oc__law_holds, od__law_holds, .func (PySem.W.fnOf "_law_holds" "_law_holds" (defArgs s__law_holds) (defBody s__law_holds) (defScope s__law_holds) .none kV__law_holds dc__law_holds pm__law_holds an__law_holds cd__law_holds ct__law_holds), sl__law_holds⟩)
    (c__law_holds : PySem.W.codeIn K cd__law_holds "_law_holds" = true)
    (k__law_holds : PySem.W.keepIn K (.ref f__law_holds) = true)
    (a__law_reserved : PySem.W.nsIn K mainGlobals "_law_reserved" = some (some (.ref f__law_reserved)))
    (l__law_reserved : K.lookup f__law_reserved = some ⟨oc__law_reserved, od__law_reserved, .func (PySem.W.fnOf "_law_reserved" "_law_reserved" (defArgs s__law_reserved) (defBody s__law_reserved) (defScope s__law_reserved) .none kV__law_reserved dc__law_reserved pm__law_reserved an__law_reserved cd__law_reserved ct__law_reserved), sl__law_reserved⟩)
    (c__law_reserved : PySem.W.codeIn K cd__law_reserved "_law_reserved" = true)
    (k__law_reserved : PySem.W.keepIn K (.ref f__law_reserved) = true)
    (a__law_bad_name : PySem.W.nsIn K mainGlobals "_law_bad_name" = some (some (.ref f__law_bad_name)))
    (l__law_bad_name : K.lookup f__law_bad_name = some ⟨oc__law_bad_name, od__law_bad_name, .func (PySem.W.fnOf "_law_bad_name" "_law_bad_name" (defArgs s__law_bad_name) (defBody s__law_bad_name) (defScope s__law_bad_name) .none kV__law_bad_name dc__law_bad_name pm__law_bad_name an__law_bad_name cd__law_bad_name ct__law_bad_name), sl__law_bad_name⟩)
    (c__law_bad_name : PySem.W.codeIn K cd__law_bad_name "_law_bad_name" = true)
    (k__law_bad_name : PySem.W.keepIn K (.ref f__law_bad_name) = true)
    (a__law_bad_number : PySem.W.nsIn K mainGlobals "_law_bad_number" = some (some (.ref f__law_bad_number)))
    (l__law_bad_number : K.lookup f__law_bad_number = some ⟨oc__law_bad_number, od__law_bad_number, .func (PySem.W.fnOf "_law_bad_number" "_law_bad_number" (defArgs s__law_bad_number) (defBody s__law_bad_number) (defScope s__law_bad_number) .none kV__law_bad_number dc__law_bad_number pm__law_bad_number an__law_bad_number cd__law_bad_number ct__law_bad_number), sl__law_bad_number⟩)
    (c__law_bad_number : PySem.W.codeIn K cd__law_bad_number "_law_bad_number" = true)
    (k__law_bad_number : PySem.W.keepIn K (.ref f__law_bad_number) = true)
    (fa_Condition___init__ : PySem.W.findIn K (.ref a_Condition) "__init__" = some (some (.ref f_Condition___init__)))
    (fn_Condition___init__ : PySem.W.isFn K (.ref f_Condition___init__) = true)
    (l_Condition___init__ : K.lookup f_Condition___init__ = some ⟨oc_Condition___init__, od_Condition___init__, .func (PySem.W.fnOf "__init__" "Condition.__init__" (defArgs s_Condition___init__) (defBody s_Condition___init__) (defScope s_Condition___init__) .none kV_Condition___init__ dc_Condition___init__ pm_Condition___init__ an_Condition___init__ cd_Condition___init__ ct_Condition___init__), sl_Condition___init__⟩)
    (c_Condition___init__ : PySem.W.codeIn K cd_Condition___init__ "Condition.__init__" = true)
    (k_Condition___init__ : PySem.W.keepIn K (.ref f_Condition___init__) = true)
    (sg_Condition_compare : PySem.W.findCls K (.ref a_Condition) (.type "type") "compare" = some (.get (.builtin "staticmethod.__get__") (.ref p_Condition_compare) .none (.ref a_Condition)))
    (sr_Condition_compare : PySem.W.recIn K p_Condition_compare "staticmethod" = some (.ref f_Condition_compare :: r_Condition_compare))
    (l_Condition_compare : K.lookup f_Condition_compare = some ⟨oc_Condition_compare, od_Condition_compare, .func (PySem.W.fnOf "compare" "Condition.compare" (defArgs s_Condition_compare) (defBody s_Condition_compare) (defScope s_Condition_compare) .none kV_Condition_compare dc_Condition_compare pm_Condition_compare an_Condition_compare cd_Condition_compare ct_Condition_compare), sl_Condition_compare⟩)
    (c_Condition_compare : PySem.W.codeIn K cd_Condition_compare "Condition.compare" = true)
    (k_Condition_compare : PySem.W.keepIn K (.ref f_Condition_compare) = true)
    (a__law_made : PySem.W.nsIn K mainGlobals "_law_made" = some (some (.ref f__law_made)))
    (l__law_made : K.lookup f__law_made = some ⟨oc__law_made, od__law_made, .func (PySem.W.fnOf "_law_made" "_law_made" (defArgs s__law_made) (defBody s__law_made) (defScope s__law_made) .none kV__law_made dc__law_made pm__law_made an__law_made cd__law_made ct__law_made), sl__law_made⟩)
    (c__law_made : PySem.W.codeIn K cd__law_made "_law_made" = true)
    (k__law_made : PySem.W.keepIn K (.ref f__law_made) = true)
    (pa_Condition_fields : PySem.W.findIn K (.ref a_Condition) "fields" = some (some (.ref p_Condition_fields)))
    (ps_Condition_fields : PySem.W.specialIn K (.ref p_Condition_fields) "__get__" = some (some (.builtin "property.__get__")))
    (pt_Condition_fields : PySem.W.takesIn K (.ref p_Condition_fields) = some true)
    (pr_Condition_fields : PySem.W.recIn K p_Condition_fields "property" = some (.ref f_Condition_fields :: r_Condition_fields))
    (l_Condition_fields : K.lookup f_Condition_fields = some ⟨oc_Condition_fields, od_Condition_fields, .func (PySem.W.fnOf "fields" "Condition.fields" (defArgs s_Condition_fields) (defBody s_Condition_fields) (defScope s_Condition_fields) .none kV_Condition_fields dc_Condition_fields pm_Condition_fields an_Condition_fields cd_Condition_fields ct_Condition_fields), sl_Condition_fields⟩)
    (c_Condition_fields : PySem.W.codeIn K cd_Condition_fields "Condition.fields" = true)
    (k_Condition_fields : PySem.W.keepIn K (.ref f_Condition_fields) = true)
    (pa_Condition_size : PySem.W.findIn K (.ref a_Condition) "size" = some (some (.ref p_Condition_size)))
    (ps_Condition_size : PySem.W.specialIn K (.ref p_Condition_size) "__get__" = some (some (.builtin "property.__get__")))
    (pt_Condition_size : PySem.W.takesIn K (.ref p_Condition_size) = some true)
    (pr_Condition_size : PySem.W.recIn K p_Condition_size "property" = some (.ref f_Condition_size :: r_Condition_size))
    (l_Condition_size : K.lookup f_Condition_size = some ⟨oc_Condition_size, od_Condition_size, .func (PySem.W.fnOf "size" "Condition.size" (defArgs s_Condition_size) (defBody s_Condition_size) (defScope s_Condition_size) .none kV_Condition_size dc_Condition_size pm_Condition_size an_Condition_size cd_Condition_size ct_Condition_size), sl_Condition_size⟩)
    (c_Condition_size : PySem.W.codeIn K cd_Condition_size "Condition.size" = true)
    (k_Condition_size : PySem.W.keepIn K (.ref f_Condition_size) = true)
    (fa_Condition___call__ : PySem.W.findIn K (.ref a_Condition) "__call__" = some (some (.ref f_Condition___call__)))
    (fn_Condition___call__ : PySem.W.isFn K (.ref f_Condition___call__) = true)
    (fi_Condition___call__ : PySem.W.fnIn K f_Condition___call__ = true)
    (l_Condition___call__ : K.lookup f_Condition___call__ = some ⟨oc_Condition___call__, od_Condition___call__, .func (PySem.W.fnOf "__call__" "Condition.__call__" (defArgs s_Condition___call__) (defBody s_Condition___call__) (defScope s_Condition___call__) .none kV_Condition___call__ dc_Condition___call__ pm_Condition___call__ an_Condition___call__ cd_Condition___call__ ct_Condition___call__), sl_Condition___call__⟩)
    (c_Condition___call__ : PySem.W.codeIn K cd_Condition___call__ "Condition.__call__" = true)
    (k_Condition___call__ : PySem.W.keepIn K (.ref f_Condition___call__) = true)
    (a__law_asked : PySem.W.nsIn K mainGlobals "_law_asked" = some (some (.ref f__law_asked)))
    (l__law_asked : K.lookup f__law_asked = some ⟨oc__law_asked, od__law_asked, .func (PySem.W.fnOf "_law_asked" "_law_asked" (defArgs s__law_asked) (defBody s__law_asked) (defScope s__law_asked) .none kV__law_asked dc__law_asked pm__law_asked an__law_asked cd__law_asked ct__law_asked), sl__law_asked⟩)
    (c__law_asked : PySem.W.codeIn K cd__law_asked "_law_asked" = true)
    (k__law_asked : PySem.W.keepIn K (.ref f__law_asked) = true)
    (a__law_refused : PySem.W.nsIn K mainGlobals "_law_refused" = some (some (.ref f__law_refused)))
    (l__law_refused : K.lookup f__law_refused = some ⟨oc__law_refused, od__law_refused, .func (PySem.W.fnOf "_law_refused" "_law_refused" (defArgs s__law_refused) (defBody s__law_refused) (defScope s__law_refused) .none kV__law_refused dc__law_refused pm__law_refused an__law_refused cd__law_refused ct__law_refused), sl__law_refused⟩)
    (c__law_refused : PySem.W.codeIn K cd__law_refused "_law_refused" = true)
    (k__law_refused : PySem.W.keepIn K (.ref f__law_refused) = true)
    (a_law : PySem.W.nsIn K mainGlobals "law" = some (some (.ref f_law)))
    (l_law : K.lookup f_law = some ⟨oc_law, od_law, .func (PySem.W.fnOf "law" "law" (defArgs s_law) (defBody s_law) (defScope s_law) .none kV_law dc_law pm_law an_law cd_law ct_law), sl_law⟩)
    (c_law : PySem.W.codeIn K cd_law "law" = true)
    (k_law : PySem.W.keepIn K (.ref f_law) = true)
    (z_ValueError : PySem.W.nsIn K mainGlobals "ValueError" = some none)
    (z_all : PySem.W.nsIn K mainGlobals "all" = some none)
    (z_bool : PySem.W.nsIn K mainGlobals "bool" = some none)
    (z_dict : PySem.W.nsIn K mainGlobals "dict" = some none)
    (z_int : PySem.W.nsIn K mainGlobals "int" = some none)
    (z_isinstance : PySem.W.nsIn K mainGlobals "isinstance" = some none)
    (z_len : PySem.W.nsIn K mainGlobals "len" = some none)
    (z_list : PySem.W.nsIn K mainGlobals "list" = some none)
    (z_property : PySem.W.nsIn K mainGlobals "property" = some none)
    (z_range : PySem.W.nsIn K mainGlobals "range" = some none)
    (z_sorted : PySem.W.nsIn K mainGlobals "sorted" = some none)
    (z_staticmethod : PySem.W.nsIn K mainGlobals "staticmethod" = some none)
    (z_str : PySem.W.nsIn K mainGlobals "str" = some none)
    (z_super : PySem.W.nsIn K mainGlobals "super" = some none)
    (z_tuple : PySem.W.nsIn K mainGlobals "tuple" = some none)
    (g_BOUND : PySem.W.nsIn K mainGlobals "BOUND" = some (some (.int 1000000000000000000000000000000 t_BOUND)))
    (g_LETTERS : PySem.W.nsIn K mainGlobals "LETTERS" = some (some (.str "abcdefghijklmnopqrstuvwxyz" t_LETTERS)))
    (g_LONGEST_NAME : PySem.W.nsIn K mainGlobals "LONGEST_NAME" = some (some (.int 12 t_LONGEST_NAME)))
    (g_RESERVED : PySem.W.nsIn K mainGlobals "RESERVED" = some (some (.ref a_RESERVED)))
    (l_RESERVED : K.lookup a_RESERVED = some ⟨.type "tuple", od_RESERVED, .seq its_RESERVED n_RESERVED, sl_RESERVED⟩)
    (v_RESERVED : Vals [(.str "always"), (.str "never"), (.str "and"), (.str "or"), (.str "not"), (.str "when"), (.str "add"), (.str "set"), (.str "change"), (.str "tell"), (.str "refuse"), (.str "take"), (.str "look"), (.str "free"), (.str "lock"), (.str "keep"), (.str "keys"), (.str "fields")] its_RESERVED.toList)
    (g_SIGNS : PySem.W.nsIn K mainGlobals "SIGNS" = some (some (.ref a_SIGNS)))
    (l_SIGNS : K.lookup a_SIGNS = some ⟨.type "tuple", od_SIGNS, .seq its_SIGNS n_SIGNS, sl_SIGNS⟩)
    (v_SIGNS : Vals [(.str "<"), (.str "<="), (.str "=="), (.str "!="), (.str ">="), (.str ">")] its_SIGNS.toList)
    (g_BadName : PySem.W.nsIn K mainGlobals "BadName" = some (some (.ref a_BadName)))
    (g_BadNumber : PySem.W.nsIn K mainGlobals "BadNumber" = some (some (.ref a_BadNumber)))
    (g_BadSign : PySem.W.nsIn K mainGlobals "BadSign" = some (some (.ref a_BadSign)))
    (g_ElseputError : PySem.W.nsIn K mainGlobals "ElseputError" = some (some (.ref a_ElseputError)))
    (g_UnknownField : PySem.W.nsIn K mainGlobals "UnknownField" = some (some (.ref a_UnknownField)))
    (st_any : PySem.W.nsIn K PySem.cStatics "thirdparty.any" = some none)
    (htop : (l.prog.main.scope.names.lookup ("super" : Str)).isSome = false)
    (xc_BadName : K.lookup a_BadName = some (excClassObj nm_BadName q_BadName a_BadName N_BadName bs_BadName bm_BadName true sn_BadName sub_BadName ab_BadName col_BadName dd_BadName e0_BadName e1_BadName e2_BadName e3_BadName e5_BadName "ValueError.__new__"))
    (ref_BadName : PySem.HandSPX.refsVE bm_BadName = true)
    (sa_BadName : PySem.W.findIn K (.ref a_BadName) "__setattr__" = some (some (.builtin "object.__setattr__")))
    (eb_BadName : PySem.W.subIn K (.ref a_BadName) (.type "BaseException") = some true)
    (ty_BadName : PySem.W.typeIn K (.ref a_BadName) = some (.type "type"))
    (kC_BadName : PySem.W.keepIn K (.ref a_BadName) = true)
    (iC_BadName : PySem.W.findIn K (.ref a_BadName) "__init__" = some (some (.ref f_BadName)))
    (tI_BadName : PySem.W.typeIn K (.ref f_BadName) = some (.type "function"))
    (sup_BadName : PySem.W.ks_superIn K a_BadName a_BadName "__init__" = some (some (.builtin "ValueError.__init__")))
    (sv_BadName : PySem.W.subIn K (.ref a_BadName) (.type "ValueError") = some true)
    (mro_BadName : PySem.W.mroIn K a_BadName (.ref a_BadName) = some true)
    (no0_BadName : PySem.W.findIn K (.ref a_BadName) "name" = some none)
    (ga_BadName : PySem.W.findIn K (.ref a_BadName) "__getattribute__" = some (some (.builtin "BaseException.__getattribute__")))
    (gg_BadName : PySem.W.findIn K (.ref a_BadName) "__getattr__" = some none)
    (hd_BadName : PySem.W.hasDictIn K a_BadName = true)
    (hcl_BadName : PySem.W.findIn K (.ref a_BadName) "__class__" = some (some (.builtin "object.__class__")))
    (hn_BadName : PySem.W.specialIn K (.builtin "object.__class__") "__get__" = some (some (.builtin "getset_descriptor.__get__")))
    (ht_BadName : PySem.W.takesIn K (.builtin "object.__class__") = some true)
    (hm_BadName : PySem.W.mroIn K a_BadName (.type "object") = some true)
    (lf_BadName : K.lookup f_BadName = some ⟨oc_BadName, od_BadName, .func (PySem.W.fnX "__init__" "BadName.__init__" (defArgs s_BadName) (defBody s_BadName) (defScope s_BadName) [("__class__", cc_BadName)] .none .none doc_BadName pm_BadName none (.ref cda_BadName) ct_BadName), osl_BadName⟩)
    (cd_BadName : PySem.W.codeIn K (.ref cda_BadName) "BadName.__init__" = true)
    (lc_BadName : K.lookup cda_BadName = some ⟨ccl_BadName, cdd_BadName, .fields vs_BadName, ccs_BadName⟩)
    (v2_BadName : vs_BadName[2]? = some (.str file_BadName tf_BadName))
    (fe_BadName : ((l.prog.main.file : Str) == file_BadName) = true)
    (lcc_BadName : K.lookup cc_BadName = some ⟨cl_BadName, cld_BadName, .cell (some (.ref a_BadName)), csl_BadName⟩)
    (hD_BadName : PySem.W.clsIn K a_BadName = some cdD_BadName)
    (xc_BadNumber : K.lookup a_BadNumber = some (excClassObj nm_BadNumber q_BadNumber a_BadNumber N_BadNumber bs_BadNumber bm_BadNumber true sn_BadNumber sub_BadNumber ab_BadNumber col_BadNumber dd_BadNumber e0_BadNumber e1_BadNumber e2_BadNumber e3_BadNumber e5_BadNumber "ValueError.__new__"))
    (ref_BadNumber : PySem.HandSPX.refsVE bm_BadNumber = true)
    (sa_BadNumber : PySem.W.findIn K (.ref a_BadNumber) "__setattr__" = some (some (.builtin "object.__setattr__")))
    (eb_BadNumber : PySem.W.subIn K (.ref a_BadNumber) (.type "BaseException") = some true)
    (ty_BadNumber : PySem.W.typeIn K (.ref a_BadNumber) = some (.type "type"))
    (kC_BadNumber : PySem.W.keepIn K (.ref a_BadNumber) = true)
    (iC_BadNumber : PySem.W.findIn K (.ref a_BadNumber) "__init__" = some (some (.ref f_BadNumber)))
    (tI_BadNumber : PySem.W.typeIn K (.ref f_BadNumber) = some (.type "function"))
    (sup_BadNumber : PySem.W.ks_superIn K a_BadNumber a_BadNumber "__init__" = some (some (.builtin "ValueError.__init__")))
    (sv_BadNumber : PySem.W.subIn K (.ref a_BadNumber) (.type "ValueError") = some true)
    (mro_BadNumber : PySem.W.mroIn K a_BadNumber (.ref a_BadNumber) = some true)
    (no0_BadNumber : PySem.W.findIn K (.ref a_BadNumber) "value" = some none)
    (ga_BadNumber : PySem.W.findIn K (.ref a_BadNumber) "__getattribute__" = some (some (.builtin "BaseException.__getattribute__")))
    (gg_BadNumber : PySem.W.findIn K (.ref a_BadNumber) "__getattr__" = some none)
    (hd_BadNumber : PySem.W.hasDictIn K a_BadNumber = true)
    (hcl_BadNumber : PySem.W.findIn K (.ref a_BadNumber) "__class__" = some (some (.builtin "object.__class__")))
    (hn_BadNumber : PySem.W.specialIn K (.builtin "object.__class__") "__get__" = some (some (.builtin "getset_descriptor.__get__")))
    (ht_BadNumber : PySem.W.takesIn K (.builtin "object.__class__") = some true)
    (hm_BadNumber : PySem.W.mroIn K a_BadNumber (.type "object") = some true)
    (lf_BadNumber : K.lookup f_BadNumber = some ⟨oc_BadNumber, od_BadNumber, .func (PySem.W.fnX "__init__" "BadNumber.__init__" (defArgs s_BadNumber) (defBody s_BadNumber) (defScope s_BadNumber) [("__class__", cc_BadNumber)] .none .none doc_BadNumber pm_BadNumber none (.ref cda_BadNumber) ct_BadNumber), osl_BadNumber⟩)
    (cd_BadNumber : PySem.W.codeIn K (.ref cda_BadNumber) "BadNumber.__init__" = true)
    (lc_BadNumber : K.lookup cda_BadNumber = some ⟨ccl_BadNumber, cdd_BadNumber, .fields vs_BadNumber, ccs_BadNumber⟩)
    (v2_BadNumber : vs_BadNumber[2]? = some (.str file_BadNumber tf_BadNumber))
    (fe_BadNumber : ((l.prog.main.file : Str) == file_BadNumber) = true)
    (lcc_BadNumber : K.lookup cc_BadNumber = some ⟨cl_BadNumber, cld_BadNumber, .cell (some (.ref a_BadNumber)), csl_BadNumber⟩)
    (hD_BadNumber : PySem.W.clsIn K a_BadNumber = some cdD_BadNumber)
    (xc_BadSign : K.lookup a_BadSign = some (excClassObj nm_BadSign q_BadSign a_BadSign N_BadSign bs_BadSign bm_BadSign true sn_BadSign sub_BadSign ab_BadSign col_BadSign dd_BadSign e0_BadSign e1_BadSign e2_BadSign e3_BadSign e5_BadSign "ValueError.__new__"))
    (ref_BadSign : PySem.HandSPX.refsVE bm_BadSign = true)
    (sa_BadSign : PySem.W.findIn K (.ref a_BadSign) "__setattr__" = some (some (.builtin "object.__setattr__")))
    (eb_BadSign : PySem.W.subIn K (.ref a_BadSign) (.type "BaseException") = some true)
    (ty_BadSign : PySem.W.typeIn K (.ref a_BadSign) = some (.type "type"))
    (kC_BadSign : PySem.W.keepIn K (.ref a_BadSign) = true)
    (iC_BadSign : PySem.W.findIn K (.ref a_BadSign) "__init__" = some (some (.ref f_BadSign)))
    (tI_BadSign : PySem.W.typeIn K (.ref f_BadSign) = some (.type "function"))
    (sup_BadSign : PySem.W.ks_superIn K a_BadSign a_BadSign "__init__" = some (some (.builtin "ValueError.__init__")))
    (sv_BadSign : PySem.W.subIn K (.ref a_BadSign) (.type "ValueError") = some true)
    (mro_BadSign : PySem.W.mroIn K a_BadSign (.ref a_BadSign) = some true)
    (no0_BadSign : PySem.W.findIn K (.ref a_BadSign) "sign" = some none)
    (ga_BadSign : PySem.W.findIn K (.ref a_BadSign) "__getattribute__" = some (some (.builtin "BaseException.__getattribute__")))
    (gg_BadSign : PySem.W.findIn K (.ref a_BadSign) "__getattr__" = some none)
    (hd_BadSign : PySem.W.hasDictIn K a_BadSign = true)
    (hcl_BadSign : PySem.W.findIn K (.ref a_BadSign) "__class__" = some (some (.builtin "object.__class__")))
    (hn_BadSign : PySem.W.specialIn K (.builtin "object.__class__") "__get__" = some (some (.builtin "getset_descriptor.__get__")))
    (ht_BadSign : PySem.W.takesIn K (.builtin "object.__class__") = some true)
    (hm_BadSign : PySem.W.mroIn K a_BadSign (.type "object") = some true)
    (lf_BadSign : K.lookup f_BadSign = some ⟨oc_BadSign, od_BadSign, .func (PySem.W.fnX "__init__" "BadSign.__init__" (defArgs s_BadSign) (defBody s_BadSign) (defScope s_BadSign) [("__class__", cc_BadSign)] .none .none doc_BadSign pm_BadSign none (.ref cda_BadSign) ct_BadSign), osl_BadSign⟩)
    (cd_BadSign : PySem.W.codeIn K (.ref cda_BadSign) "BadSign.__init__" = true)
    (lc_BadSign : K.lookup cda_BadSign = some ⟨ccl_BadSign, cdd_BadSign, .fields vs_BadSign, ccs_BadSign⟩)
    (v2_BadSign : vs_BadSign[2]? = some (.str file_BadSign tf_BadSign))
    (fe_BadSign : ((l.prog.main.file : Str) == file_BadSign) = true)
    (lcc_BadSign : K.lookup cc_BadSign = some ⟨cl_BadSign, cld_BadSign, .cell (some (.ref a_BadSign)), csl_BadSign⟩)
    (hD_BadSign : PySem.W.clsIn K a_BadSign = some cdD_BadSign)
    (xc_UnknownField : K.lookup a_UnknownField = some (excClassObj nm_UnknownField q_UnknownField a_UnknownField N_UnknownField bs_UnknownField bm_UnknownField true sn_UnknownField sub_UnknownField ab_UnknownField col_UnknownField dd_UnknownField e0_UnknownField e1_UnknownField e2_UnknownField e3_UnknownField e5_UnknownField "ValueError.__new__"))
    (ref_UnknownField : PySem.HandSPX.refsVE bm_UnknownField = true)
    (sa_UnknownField : PySem.W.findIn K (.ref a_UnknownField) "__setattr__" = some (some (.builtin "object.__setattr__")))
    (eb_UnknownField : PySem.W.subIn K (.ref a_UnknownField) (.type "BaseException") = some true)
    (ty_UnknownField : PySem.W.typeIn K (.ref a_UnknownField) = some (.type "type"))
    (kC_UnknownField : PySem.W.keepIn K (.ref a_UnknownField) = true)
    (iC_UnknownField : PySem.W.findIn K (.ref a_UnknownField) "__init__" = some (some (.ref f_UnknownField)))
    (tI_UnknownField : PySem.W.typeIn K (.ref f_UnknownField) = some (.type "function"))
    (sv_UnknownField : PySem.W.subIn K (.ref a_UnknownField) (.type "ValueError") = some true)
    (no0_UnknownField : PySem.W.findIn K (.ref a_UnknownField) "name" = some none)
    (ga_UnknownField : PySem.W.findIn K (.ref a_UnknownField) "__getattribute__" = some (some (.builtin "BaseException.__getattribute__")))
    (gg_UnknownField : PySem.W.findIn K (.ref a_UnknownField) "__getattr__" = some none)
    (hd_UnknownField : PySem.W.hasDictIn K a_UnknownField = true)
    (hcl_UnknownField : PySem.W.findIn K (.ref a_UnknownField) "__class__" = some (some (.builtin "object.__class__")))
    (hn_UnknownField : PySem.W.specialIn K (.builtin "object.__class__") "__get__" = some (some (.builtin "getset_descriptor.__get__")))
    (ht_UnknownField : PySem.W.takesIn K (.builtin "object.__class__") = some true)
    (hm_UnknownField : PySem.W.mroIn K a_UnknownField (.type "object") = some true)
    (lf_UnknownField : K.lookup f_UnknownField = some ⟨oc_UnknownField, od_UnknownField, .func (PySem.W.fnX "__init__" "UnknownName.__init__" (defArgs s_UnknownField) (defBody s_UnknownField) (defScope s_UnknownField) [("__class__", cc_UnknownField)] .none .none doc_UnknownField pm_UnknownField none (.ref cda_UnknownField) ct_UnknownField), osl_UnknownField⟩)
    (cd_UnknownField : PySem.W.codeIn K (.ref cda_UnknownField) "UnknownName.__init__" = true)
    (lc_UnknownField : K.lookup cda_UnknownField = some ⟨ccl_UnknownField, cdd_UnknownField, .fields vs_UnknownField, ccs_UnknownField⟩)
    (v2_UnknownField : vs_UnknownField[2]? = some (.str file_UnknownField tf_UnknownField))
    (fe_UnknownField : ((l.prog.main.file : Str) == file_UnknownField) = true)
    (lcc_UnknownField : K.lookup cc_UnknownField = some ⟨cl_UnknownField, cld_UnknownField, .cell (some (.ref D_UnknownField)), csl_UnknownField⟩)
    (sup_UnknownField : PySem.W.ks_superIn K a_UnknownField D_UnknownField "__init__" = some (some (.builtin "ValueError.__init__")))
    (mro_UnknownField : PySem.W.mroIn K a_UnknownField (.ref D_UnknownField) = some true)
    (hD_UnknownField : PySem.W.clsIn K D_UnknownField = some cdD_UnknownField)
    (mb_ElseputError : PySem.W.subIn K (.ref a_ElseputError) (.type "BaseException") = some true)
    (md_ElseputError : PySem.W.hasDictIn K a_ElseputError = true)
    (mt_ElseputError : PySem.W.typeIn K (.ref a_ElseputError) = some (.type "type"))
    (ms_BadName_ElseputError : PySem.W.subIn K (.ref a_BadName) (.ref a_ElseputError) = some true)
    (ms_BadNumber_ElseputError : PySem.W.subIn K (.ref a_BadNumber) (.ref a_ElseputError) = some true)
    (ms_BadSign_ElseputError : PySem.W.subIn K (.ref a_BadSign) (.ref a_ElseputError) = some true)
    (ms_UnknownField_ElseputError : PySem.W.subIn K (.ref a_UnknownField) (.ref a_ElseputError) = some true)
    (kit_BadName_BadName : PySem.W.kitOne K (.ref a_BadName) (.ref a_BadName) = some true)
    (kit_BadName_BadSign : PySem.W.kitOne K (.ref a_BadName) (.ref a_BadSign) = some false)
    (kit_BadName_BadNumber : PySem.W.kitOne K (.ref a_BadName) (.ref a_BadNumber) = some false)
    (kit_BadName_ValueError : PySem.W.kitOne K (.ref a_BadName) (.type "ValueError") = some true)
    (kit_BadNumber_BadName : PySem.W.kitOne K (.ref a_BadNumber) (.ref a_BadName) = some false)
    (kit_BadNumber_BadSign : PySem.W.kitOne K (.ref a_BadNumber) (.ref a_BadSign) = some false)
    (kit_BadNumber_BadNumber : PySem.W.kitOne K (.ref a_BadNumber) (.ref a_BadNumber) = some true)
    (kit_BadNumber_ValueError : PySem.W.kitOne K (.ref a_BadNumber) (.type "ValueError") = some true)
    (kit_BadSign_BadName : PySem.W.kitOne K (.ref a_BadSign) (.ref a_BadName) = some false)
    (kit_BadSign_BadSign : PySem.W.kitOne K (.ref a_BadSign) (.ref a_BadSign) = some true)
    (kit_BadSign_BadNumber : PySem.W.kitOne K (.ref a_BadSign) (.ref a_BadNumber) = some false)
    (kit_BadSign_ValueError : PySem.W.kitOne K (.ref a_BadSign) (.type "ValueError") = some true)
    (kit_UnknownField_BadName : PySem.W.kitOne K (.ref a_UnknownField) (.ref a_BadName) = some false)
    (kit_UnknownField_BadSign : PySem.W.kitOne K (.ref a_UnknownField) (.ref a_BadSign) = some false)
    (kit_UnknownField_BadNumber : PySem.W.kitOne K (.ref a_UnknownField) (.ref a_BadNumber) = some false)
    (kit_UnknownField_ValueError : PySem.W.kitOne K (.ref a_UnknownField) (.type "ValueError") = some true)
    : ∃ fd : FuncData, (∀ (s : Shared) (v : Value), BindsTo s fd ⟨[v], []⟩ [("_law_script", v)]) ∧ ∀ base : Heap, K.In base → base.Ns mainGlobals mg → FnOk l.prog w K mg base CX0 12 fa fd ["_law_script"] (spLaw K) := by
  have e := hfa.symm.trans (PySem.W.mg_of X G a_law)
  cases e
  have XK_BadName : ExK K a_BadName f_BadName ["name"] := exk_mk xc_BadName ref_BadName sa_BadName eb_BadName ty_BadName kC_BadName sup_BadName sv_BadName mro_BadName iC_BadName tI_BadName (fun f hf => by simp only [List.mem_cons, List.not_mem_nil, or_false] at hf; subst hf; exact no0_BadName) ga_BadName gg_BadName hd_BadName hcl_BadName hn_BadName ht_BadName hm_BadName
  have XK_BadNumber : ExK K a_BadNumber f_BadNumber ["value"] := exk_mk xc_BadNumber ref_BadNumber sa_BadNumber eb_BadNumber ty_BadNumber kC_BadNumber sup_BadNumber sv_BadNumber mro_BadNumber iC_BadNumber tI_BadNumber (fun f hf => by simp only [List.mem_cons, List.not_mem_nil, or_false] at hf; subst hf; exact no0_BadNumber) ga_BadNumber gg_BadNumber hd_BadNumber hcl_BadNumber hn_BadNumber ht_BadNumber hm_BadNumber
  have XK_BadSign : ExK K a_BadSign f_BadSign ["sign"] := exk_mk xc_BadSign ref_BadSign sa_BadSign eb_BadSign ty_BadSign kC_BadSign sup_BadSign sv_BadSign mro_BadSign iC_BadSign tI_BadSign (fun f hf => by simp only [List.mem_cons, List.not_mem_nil, or_false] at hf; subst hf; exact no0_BadSign) ga_BadSign gg_BadSign hd_BadSign hcl_BadSign hn_BadSign ht_BadSign hm_BadSign
  have XK_UnknownField : ExI K a_UnknownField D_UnknownField f_UnknownField ["name"] := exi_mk xc_UnknownField ref_UnknownField sa_UnknownField eb_UnknownField ty_UnknownField kC_UnknownField sup_UnknownField sv_UnknownField mro_UnknownField iC_UnknownField tI_UnknownField (fun f hf => by simp only [List.mem_cons, List.not_mem_nil, or_false] at hf; subst hf; exact no0_UnknownField) ga_UnknownField gg_UnknownField hd_UnknownField hcl_UnknownField hn_UnknownField ht_UnknownField hm_UnknownField
  have T : Gs K mg t_BOUND t_LETTERS t_LONGEST_NAME a_RESERVED a_SIGNS a_BadName a_BadNumber a_BadSign a_Condition a_ElseputError a_UnknownField := { z_ValueError := PySem.W.mg_none_of X G z_ValueError, z_all := PySem.W.mg_none_of X G z_all, z_bool := PySem.W.mg_none_of X G z_bool, z_dict := PySem.W.mg_none_of X G z_dict, z_int := PySem.W.mg_none_of X G z_int, z_isinstance := PySem.W.mg_none_of X G z_isinstance, z_len := PySem.W.mg_none_of X G z_len, z_list := PySem.W.mg_none_of X G z_list, z_property := PySem.W.mg_none_of X G z_property, z_range := PySem.W.mg_none_of X G z_range, z_sorted := PySem.W.mg_none_of X G z_sorted, z_staticmethod := PySem.W.mg_none_of X G z_staticmethod, z_str := PySem.W.mg_none_of X G z_str, z_super := PySem.W.mg_none_of X G z_super, z_tuple := PySem.W.mg_none_of X G z_tuple, g_BOUND := PySem.W.mg_of X G g_BOUND, g_LETTERS := PySem.W.mg_of X G g_LETTERS, g_LONGEST_NAME := PySem.W.mg_of X G g_LONGEST_NAME, g_RESERVED := PySem.W.mg_of X G g_RESERVED, g_SIGNS := PySem.W.mg_of X G g_SIGNS, g_BadName := PySem.W.mg_of X G g_BadName, g_BadNumber := PySem.W.mg_of X G g_BadNumber, g_BadSign := PySem.W.mg_of X G g_BadSign, g_Condition := PySem.W.mg_of X G g_Condition, g_ElseputError := PySem.W.mg_of X G g_ElseputError, g_UnknownField := PySem.W.mg_of X G g_UnknownField, q_RESERVED := fun _ => .inr ⟨_, _, _, l_RESERVED, rfl, rfl, (by have e : _ = its_RESERVED.size := v_RESERVED.length.trans Array.length_toList; rw [← e]; decide), v_RESERVED⟩, q_SIGNS := fun _ => .inr ⟨_, _, _, l_SIGNS, rfl, rfl, (by have e : _ = its_SIGNS.size := v_SIGNS.length.trans Array.length_toList; rw [← e]; decide), v_SIGNS⟩, n_ElseputError := g_ElseputError, n_BadName := g_BadName, n_BadNumber := g_BadNumber, n_BadSign := g_BadSign, n_UnknownField := g_UnknownField, n_Condition := g_Condition, x_BadName := ⟨XK_BadName.no, XK_BadName.xf, XK_BadName.is⟩, x_BadNumber := ⟨XK_BadNumber.no, XK_BadNumber.xf, XK_BadNumber.is⟩, x_BadSign := ⟨XK_BadSign.no, XK_BadSign.xf, XK_BadSign.is⟩, x_UnknownField := ⟨XK_UnknownField.no, XK_UnknownField.xf, XK_UnknownField.is⟩, cl_Condition := ⟨pg_Condition, hx_Condition, po_Condition, st_Condition⟩, rd_Condition := ⟨rr_Condition, rg_Condition⟩, na_Condition__fields := na_Condition__fields, na_Condition_tree := na_Condition_tree, cv_Condition_MOST := ⟨_, cv_Condition_MOST, ⟨_, rfl⟩⟩, m_BadName_ElseputError := PySem.W.exm_ref mb_ElseputError md_ElseputError mt_ElseputError ms_BadName_ElseputError, m_BadNumber_ElseputError := PySem.W.exm_ref mb_ElseputError md_ElseputError mt_ElseputError ms_BadNumber_ElseputError, m_BadSign_ElseputError := PySem.W.exm_ref mb_ElseputError md_ElseputError mt_ElseputError ms_BadSign_ElseputError, m_UnknownField_ElseputError := PySem.W.exm_ref mb_ElseputError md_ElseputError mt_ElseputError ms_UnknownField_ElseputError, k_BadName_BadName := kit_BadName_BadName, k_BadName_BadSign := kit_BadName_BadSign, k_BadName_BadNumber := kit_BadName_BadNumber, k_BadName_ValueError := kit_BadName_ValueError, k_BadNumber_BadName := kit_BadNumber_BadName, k_BadNumber_BadSign := kit_BadNumber_BadSign, k_BadNumber_BadNumber := kit_BadNumber_BadNumber, k_BadNumber_ValueError := kit_BadNumber_ValueError, k_BadSign_BadName := kit_BadSign_BadName, k_BadSign_BadSign := kit_BadSign_BadSign, k_BadSign_BadNumber := kit_BadSign_BadNumber, k_BadSign_ValueError := kit_BadSign_ValueError, k_UnknownField_BadName := kit_UnknownField_BadName, k_UnknownField_BadSign := kit_UnknownField_BadSign, k_UnknownField_BadNumber := kit_UnknownField_BadNumber, k_UnknownField_ValueError := kit_UnknownField_ValueError }
  have F_is_name := fun_mk (st := s_is_name) l_is_name c_is_name k_is_name
  have b_is_name := F_is_name.binds (ps := ["text"]) fun _ _ _ _ _ _ us hl => match us, hl with | [_], _ => rfl
  have F_in_bound := fun_mk (st := s_in_bound) l_in_bound c_in_bound k_in_bound
  have b_in_bound := F_in_bound.binds (ps := ["value"]) fun _ _ _ _ _ _ us hl => match us, hl with | [_], _ => rfl
  have F_check_name := fun_mk (st := s_check_name) l_check_name c_check_name k_check_name
  have b_check_name := F_check_name.binds (ps := ["text"]) fun _ _ _ _ _ _ us hl => match us, hl with | [_], _ => rfl
  have F_check_number := fun_mk (st := s_check_number) l_check_number c_check_number k_check_number
  have b_check_number := F_check_number.binds (ps := ["value"]) fun _ _ _ _ _ _ us hl => match us, hl with | [_], _ => rfl
  have F_comparisons := fun_mk (st := s_comparisons) l_comparisons c_comparisons k_comparisons
  have b_comparisons := F_comparisons.binds (ps := ["tree"]) fun _ _ _ _ _ _ us hl => match us, hl with | [_], _ => rfl
  have F_sign_holds := fun_mk (st := s_sign_holds) l_sign_holds c_sign_holds k_sign_holds
  have b_sign_holds := F_sign_holds.binds (ps := ["left", "sign", "right"]) fun _ _ _ _ _ _ us hl => match us, hl with | [_, _, _], _ => rfl
  have F_holds := fun_mk (st := s_holds) l_holds c_holds k_holds
  have b_holds := F_holds.binds (ps := ["tree", "content"]) fun _ _ _ _ _ _ us hl => match us, hl with | [_, _], _ => rfl
  have F__law_state := fun_mk (st := s__law_state) l__law_state c__law_state k__law_state
  have b__law_state := F__law_state.binds (ps := ["_law_script"]) fun _ _ _ _ _ _ us hl => match us, hl with | [_], _ => rfl
  have F__law_draw := fun_mk (st := s__law_draw) l__law_draw c__law_draw k__law_draw
  have b__law_draw := F__law_draw.binds (ps := ["_law_state_here", "_law_many"]) fun _ _ _ _ _ _ us hl => match us, hl with | [_, _], _ => rfl
  have F__law_pick := fun_mk (st := s__law_pick) l__law_pick c__law_pick k__law_pick
  have b__law_pick := F__law_pick.binds (ps := ["_law_state_here", "_law_row"]) fun _ _ _ _ _ _ us hl => match us, hl with | [_, _], _ => rfl
  have F__law_number := fun_mk (st := s__law_number) l__law_number c__law_number k__law_number
  have b__law_number := F__law_number.binds (ps := ["_law_state_here"]) fun _ _ _ _ _ _ us hl => match us, hl with | [_], _ => rfl
  have F__law_names := fun_mk (st := s__law_names) l__law_names c__law_names k__law_names
  have b__law_names := F__law_names.binds (ps := ["_law_state_here", "_law_many"]) fun _ _ _ _ _ _ us hl => match us, hl with | [_, _], _ => rfl
  have F__law_is_int := fun_mk (st := s__law_is_int) l__law_is_int c__law_is_int k__law_is_int
  have b__law_is_int := F__law_is_int.binds (ps := ["_law_thing"]) fun _ _ _ _ _ _ us hl => match us, hl with | [_], _ => rfl
  have F__law_same := fun_mk (st := s__law_same) l__law_same c__law_same k__law_same
  have b__law_same := F__law_same.binds (ps := ["_law_actual", "_law_due"]) fun _ _ _ _ _ _ us hl => match us, hl with | [_, _], _ => rfl
  have F__law_holds := fun_mk (st := s__law_holds) l__law_holds c__law_holds k__law_holds
  have b__law_holds := F__law_holds.binds (ps := ["_law_tree", "_law_content"]) fun _ _ _ _ _ _ us hl => match us, hl with | [_, _], _ => rfl
  have F__law_reserved := fun_mk (st := s__law_reserved) l__law_reserved c__law_reserved k__law_reserved
  have b__law_reserved := F__law_reserved.binds (ps := []) fun _ _ _ _ _ _ us hl => match us, hl with | [], _ => rfl
  have F__law_bad_name := fun_mk (st := s__law_bad_name) l__law_bad_name c__law_bad_name k__law_bad_name
  have b__law_bad_name := F__law_bad_name.binds (ps := ["_law_state_here", "_law_name", "_law_kind"]) fun _ _ _ _ _ _ us hl => match us, hl with | [_, _, _], _ => rfl
  have F__law_bad_number := fun_mk (st := s__law_bad_number) l__law_bad_number c__law_bad_number k__law_bad_number
  have b__law_bad_number := F__law_bad_number.binds (ps := ["_law_state_here"]) fun _ _ _ _ _ _ us hl => match us, hl with | [_], _ => rfl
  have F_Condition___init__ := fun_mk (st := s_Condition___init__) l_Condition___init__ c_Condition___init__ k_Condition___init__
  have b_Condition___init__ := F_Condition___init__.binds (ps := ["self", "tree"]) fun _ _ _ _ _ _ us hl => match us, hl with | [_, _], _ => rfl
  have F_Condition_compare := fun_mk (st := s_Condition_compare) l_Condition_compare c_Condition_compare k_Condition_compare
  have b_Condition_compare := F_Condition_compare.binds (ps := ["field", "sign", "number"]) fun _ _ _ _ _ _ us hl => match us, hl with | [_, _, _], _ => rfl
  have F__law_made := fun_mk (st := s__law_made) l__law_made c__law_made k__law_made
  have b__law_made := F__law_made.binds (ps := ["_law_field", "_law_sign", "_law_number_here"]) fun _ _ _ _ _ _ us hl => match us, hl with | [_, _, _], _ => rfl
  have F_Condition_fields := fun_mk (st := s_Condition_fields) l_Condition_fields c_Condition_fields k_Condition_fields
  have b_Condition_fields := F_Condition_fields.binds (ps := ["self"]) fun _ _ _ _ _ _ us hl => match us, hl with | [_], _ => rfl
  have F_Condition_size := fun_mk (st := s_Condition_size) l_Condition_size c_Condition_size k_Condition_size
  have b_Condition_size := F_Condition_size.binds (ps := ["self"]) fun _ _ _ _ _ _ us hl => match us, hl with | [_], _ => rfl
  have F_Condition___call__ := fun_mk (st := s_Condition___call__) l_Condition___call__ c_Condition___call__ k_Condition___call__
  have b_Condition___call__ := F_Condition___call__.binds (ps := ["self", "content"]) fun _ _ _ _ _ _ us hl => match us, hl with | [_, _], _ => rfl
  have F__law_asked := fun_mk (st := s__law_asked) l__law_asked c__law_asked k__law_asked
  have b__law_asked := F__law_asked.binds (ps := ["_law_field", "_law_sign", "_law_number_here", "_law_other_field", "_law_values"]) fun _ _ _ _ _ _ us hl => match us, hl with | [_, _, _, _, _], _ => rfl
  have F__law_refused := fun_mk (st := s__law_refused) l__law_refused c__law_refused k__law_refused
  have b__law_refused := F__law_refused.binds (ps := ["_law_state_here", "_law_name", "_law_sign", "_law_number_here", "_law_kind"]) fun _ _ _ _ _ _ us hl => match us, hl with | [_, _, _, _, _], _ => rfl
  have F_law := fun_mk (st := s_law) l_law c_law k_law
  have b_law := F_law.binds (ps := ["_law_script"]) fun _ _ _ _ _ _ us hl => match us, hl with | [_], _ => rfl
  refine ⟨PySem.W.fnOf "law" "law" (defArgs s_law) (defBody s_law) (defScope s_law) .none kV_law dc_law pm_law an_law cd_law ct_law, fun s v => .of_eq rfl, fun base _ _ => ?_⟩
  have C_BadName : CalE l.prog w K mg base 1 "BadName" a_BadName f_BadName _ ["self", "name"] okx_BadName fs_BadName ["name"] := ⟨ok_BadName XK_BadName lf_BadName cd_BadName lc_BadName v2_BadName fe_BadName lcc_BadName hD_BadName (PySem.W.mg_none_of X G z_super) st_any htop, .all fun us hl => (match us, hl with | [_, _], _ => rfl), XK_BadName, PySem.W.mg_of X G g_BadName⟩
  have C_BadNumber : CalE l.prog w K mg base 1 "BadNumber" a_BadNumber f_BadNumber _ ["self", "value"] okx_BadNumber fs_BadNumber ["value"] := ⟨ok_BadNumber XK_BadNumber lf_BadNumber cd_BadNumber lc_BadNumber v2_BadNumber fe_BadNumber lcc_BadNumber hD_BadNumber (PySem.W.mg_none_of X G z_super) st_any htop, .all fun us hl => (match us, hl with | [_, _], _ => rfl), XK_BadNumber, PySem.W.mg_of X G g_BadNumber⟩
  have C_BadSign : CalE l.prog w K mg base 1 "BadSign" a_BadSign f_BadSign _ ["self", "sign"] okx_BadSign fs_BadSign ["sign"] := ⟨ok_BadSign XK_BadSign lf_BadSign cd_BadSign lc_BadSign v2_BadSign fe_BadSign lcc_BadSign hD_BadSign (PySem.W.mg_none_of X G z_super) st_any htop, .all fun us hl => (match us, hl with | [_, _], _ => rfl), XK_BadSign, PySem.W.mg_of X G g_BadSign⟩
  have C_UnknownField : CalEI l.prog w K mg base 1 "UnknownField" a_UnknownField f_UnknownField _ ["self", "name"] okx_UnknownField fs_UnknownField ["name"] := ⟨ok_UnknownField XK_UnknownField lf_UnknownField cd_UnknownField lc_UnknownField v2_UnknownField fe_UnknownField lcc_UnknownField hD_UnknownField (PySem.W.mg_none_of X G z_super) st_any htop, .all fun us hl => (match us, hl with | [_, _], _ => rfl), ⟨_, XK_UnknownField⟩, PySem.W.mg_of X G g_UnknownField⟩
  have C_is_name : Cal l.prog w K mg base CX0 1 "is_name" f_is_name _ ["text"] (sp_is_name K) := ⟨ok_is_name F_is_name T, b_is_name, k_is_name, PySem.W.mg_of X G a_is_name⟩
  have C_in_bound : Cal l.prog w K mg base CX0 1 "in_bound" f_in_bound _ ["value"] (sp_in_bound K) := ⟨ok_in_bound F_in_bound T, b_in_bound, k_in_bound, PySem.W.mg_of X G a_in_bound⟩
  have C_check_name : Cal l.prog w K mg base (L2.CX l.prog w) 3 "check_name" f_check_name _ ["text"] (sp_check_name K) := ⟨ok_check_name F_check_name T C_is_name C_BadName, b_check_name, k_check_name, PySem.W.mg_of X G a_check_name⟩
  have C_check_number : Cal l.prog w K mg base (L2.CX l.prog w) 3 "check_number" f_check_number _ ["value"] (sp_check_number K) := ⟨ok_check_number F_check_number T C_in_bound C_BadNumber, b_check_number, k_check_number, PySem.W.mg_of X G a_check_number⟩
  have C_comparisons : Cal l.prog w K mg base CX0 1 "comparisons" f_comparisons _ ["tree"] (sp_comparisons K) := ⟨ok_comparisons F_comparisons T, b_comparisons, k_comparisons, PySem.W.mg_of X G a_comparisons⟩
  have C_sign_holds : Cal l.prog w K mg base CX0 1 "sign_holds" f_sign_holds _ ["left", "sign", "right"] (sp_sign_holds K) := ⟨ok_sign_holds F_sign_holds T, b_sign_holds, k_sign_holds, PySem.W.mg_of X G a_sign_holds⟩
  have C_holds : Cal l.prog w K mg base CX0 2 "holds" f_holds _ ["tree", "content"] (sp_holds K) := ⟨ok_holds F_holds T C_sign_holds, b_holds, k_holds, PySem.W.mg_of X G a_holds⟩
  have C__law_state : Cal l.prog w K mg base CX0 1 "_law_state" f__law_state _ ["_law_script"] (sp__law_state K) := ⟨ok__law_state F__law_state T, b__law_state, k__law_state, PySem.W.mg_of X G a__law_state⟩
  have C__law_draw : Cal l.prog w K mg base CX0 1 "_law_draw" f__law_draw _ ["_law_state_here", "_law_many"] (sp__law_draw K) := ⟨ok__law_draw F__law_draw T, b__law_draw, k__law_draw, PySem.W.mg_of X G a__law_draw⟩
  have C__law_pick : Cal l.prog w K mg base CX0 2 "_law_pick" f__law_pick _ ["_law_state_here", "_law_row"] (sp__law_pick K) := ⟨ok__law_pick F__law_pick T C__law_draw, b__law_pick, k__law_pick, PySem.W.mg_of X G a__law_pick⟩
  have C__law_number : Cal l.prog w K mg base CX0 2 "_law_number" f__law_number _ ["_law_state_here"] (sp__law_number K) := ⟨ok__law_number F__law_number T C__law_draw, b__law_number, k__law_number, PySem.W.mg_of X G a__law_number⟩
  have C__law_names : Cal l.prog w K mg base CX0 2 "_law_names" f__law_names _ ["_law_state_here", "_law_many"] (sp__law_names K) := ⟨ok__law_names F__law_names T C__law_draw, b__law_names, k__law_names, PySem.W.mg_of X G a__law_names⟩
  have C__law_is_int : Cal l.prog w K mg base CX0 1 "_law_is_int" f__law_is_int _ ["_law_thing"] (sp__law_is_int K) := ⟨ok__law_is_int F__law_is_int T, b__law_is_int, k__law_is_int, PySem.W.mg_of X G a__law_is_int⟩
  have C__law_same : Cal l.prog w K mg base CX0 6 "_law_same" f__law_same _ ["_law_actual", "_law_due"] (sp__law_same K) := ⟨ok__law_same F__law_same T C__law_is_int b__law_same k__law_same (PySem.W.mg_of X G a__law_same), b__law_same, k__law_same, PySem.W.mg_of X G a__law_same⟩
  have C__law_holds : Cal l.prog w K mg base CX0 1 "_law_holds" f__law_holds _ ["_law_tree", "_law_content"] (sp__law_holds K) := ⟨ok__law_holds F__law_holds T, b__law_holds, k__law_holds, PySem.W.mg_of X G a__law_holds⟩
  have C__law_reserved : Cal l.prog w K mg base CX0 1 "_law_reserved" f__law_reserved _ [] (sp__law_reserved K) := ⟨ok__law_reserved F__law_reserved T, b__law_reserved, k__law_reserved, PySem.W.mg_of X G a__law_reserved⟩
  have C__law_bad_name : Cal l.prog w K mg base CX0 3 "_law_bad_name" f__law_bad_name _ ["_law_state_here", "_law_name", "_law_kind"] (sp__law_bad_name K) := ⟨ok__law_bad_name F__law_bad_name T C__law_pick C__law_draw C__law_reserved, b__law_bad_name, k__law_bad_name, PySem.W.mg_of X G a__law_bad_name⟩
  have C__law_bad_number : Cal l.prog w K mg base CX0 2 "_law_bad_number" f__law_bad_number _ ["_law_state_here"] (sp__law_bad_number K) := ⟨ok__law_bad_number F__law_bad_number T C__law_draw, b__law_bad_number, k__law_bad_number, PySem.W.mg_of X G a__law_bad_number⟩
  have C_Condition___init__ : CalI l.prog w K mg base CX0 2 "Condition" a_Condition f_Condition___init__ _ ["self", "tree"] (sp_Condition___init__ K) := ⟨⟨ok_Condition___init__ F_Condition___init__ T C_comparisons, b_Condition___init__⟩, ⟨mi_Condition, fa_Condition___init__, fn_Condition___init__, ko_Condition⟩, PySem.W.mg_of X G g_Condition⟩
  have C_Condition_compare : CalS l.prog w K mg base (L2.CX l.prog w) 4 a_Condition p_Condition_compare "compare" f_Condition_compare _ ["field", "sign", "number"] (sp_Condition_compare K) := ⟨⟨ok_Condition_compare F_Condition_compare T C_check_name C_check_number C_Condition___init__ C_BadSign, b_Condition_compare⟩, ⟨rr_Condition, rg_Condition⟩, ⟨sg_Condition_compare, ⟨_, sr_Condition_compare⟩, k_Condition_compare⟩⟩
  have C__law_made : Cal l.prog w K mg base CX0 5 "_law_made" f__law_made _ ["_law_field", "_law_sign", "_law_number_here"] (sp__law_made K) := ⟨ok__law_made F__law_made T C_Condition_compare, b__law_made, k__law_made, PySem.W.mg_of X G a__law_made⟩
  have C_Condition_fields : CalP l.prog w K mg base CX0 1 a_Condition p_Condition_fields "fields" f_Condition_fields _ ["self"] (sp_Condition_fields K) := ⟨⟨ok_Condition_fields F_Condition_fields T, b_Condition_fields⟩, ⟨pg_Condition, hx_Condition, po_Condition, st_Condition⟩, ⟨pa_Condition_fields, ps_Condition_fields, pt_Condition_fields, ⟨_, pr_Condition_fields⟩⟩⟩
  have C_Condition_size : CalP l.prog w K mg base CX0 2 a_Condition p_Condition_size "size" f_Condition_size _ ["self"] (sp_Condition_size K) := ⟨⟨ok_Condition_size F_Condition_size T C_comparisons, b_Condition_size⟩, ⟨pg_Condition, hx_Condition, po_Condition, st_Condition⟩, ⟨pa_Condition_size, ps_Condition_size, pt_Condition_size, ⟨_, pr_Condition_size⟩⟩⟩
  have C_Condition___call__ : CalC l.prog w K mg base (L2.CX l.prog w) 3 a_Condition f_Condition___call__ _ ["self", "content"] (sp_Condition___call__ K) := ⟨⟨ok_Condition___call__ F_Condition___call__ T C_holds C_Condition_fields C_UnknownField, b_Condition___call__⟩, ⟨fa_Condition___call__, fn_Condition___call__, fi_Condition___call__⟩⟩
  have C__law_asked : Cal l.prog w K mg base CX0 9 "_law_asked" f__law_asked _ ["_law_field", "_law_sign", "_law_number_here", "_law_other_field", "_law_values"] (sp__law_asked K) := ⟨ok__law_asked F__law_asked T C__law_same C__law_holds C_Condition_compare C_Condition_fields C_Condition_size C_Condition___call__, b__law_asked, k__law_asked, PySem.W.mg_of X G a__law_asked⟩
  have C__law_refused : Cal l.prog w K mg base CX0 9 "_law_refused" f__law_refused _ ["_law_state_here", "_law_name", "_law_sign", "_law_number_here", "_law_kind"] (sp__law_refused K) := ⟨ok__law_refused F__law_refused T C__law_bad_name C__law_pick C__law_bad_number C__law_same C__law_made, b__law_refused, k__law_refused, PySem.W.mg_of X G a__law_refused⟩
  exact ok_law F_law T C__law_state C__law_names C__law_number C__law_asked C__law_refused C__law_same C__law_pick C__law_made
theorem walk {l : PySem.W.OpenLaw} {q : Program} {loose : List Str} {XP : (Str → Option Value) → Heap → Prop} {YP : World → Heap → Prop} {d : DefRec} {K : Params → PySem.W.Frag} (hn : l.most = some 63) (hdf : d.params.defaults = [])
    (hY : ∀ (w : World) (h : Heap), YP w h → (K w.params).In h)
    (F : ∀ (w : World) (mg : Str → Option Value) (fa : Addr) (h : Heap), (K w.params).In h → h.Ns mainGlobals mg → mg d.name = some (.ref fa) →
      ∃ fd : FuncData, (∀ (s : Shared) (u : Value), BindsTo s fd ⟨[u], []⟩ [("_law_script", u)]) ∧ ∀ base : Heap, (K w.params).In base → base.Ns mainGlobals mg → FnOk l.prog w (K w.params) mg base CX0 12 fa fd ["_law_script"] (spLaw (K w.params))) :
    PySem.W.WalkO q loose XP YP l.row.toRowW d [] (fun f vs => PySem.call f vs) :=
  L2.walk_of (n := 63) (k := 12) (x := "_law_script") (CX := fun _ => CX0) (sp := fun w => spLaw (K w.params)) hn (by decide) hdf ⟨rfl, by decide, by decide⟩ hY F (fun _ _ a ns hl _ hS => ⟨a, ns, rfl, hS, hl, fun _ => rfl⟩) fun _ _ _ _ _ z => z
end K02
open PySem PySem.W PyProof.Rows
set_option maxRecDepth 100000 in
set_option maxHeartbeats 0 in
theorem PySem.Challenge.cw_elseput_k02_one_comparison_holds : PySem.Challenge.rw_elseput_k02_one_comparison.Holds := by
  w_on; o_law; k_head; (case hw => w_witness2)
  k_fill
  refine K02.walk (l := PySem.Challenge.rw_elseput_k02_one_comparison) rfl rfl (fun w h Y => PySem.W.kIn_of Y) ?F
  case F =>
    intro w mg fa h KX G hmg
    refine' K02.all_mk KX G hmg ?g_Condition ?pg_Condition ?hx_Condition ?po_Condition ?st_Condition ?rr_Condition ?rg_Condition ?mi_Condition ?ko_Condition ?sf_Condition ?na_Condition__fields ?na_Condition_tree ?cv_Condition_MOST ?a_is_name ?l_is_name ?c_is_name ?k_is_name ?a_in_bound ?l_in_bound ?c_in_bound ?k_in_bound ?a_check_name ?l_check_name ?c_check_name ?k_check_name ?a_check_number ?l_check_number ?c_check_number ?k_check_number ?a_comparisons ?l_comparisons ?c_comparisons ?k_comparisons ?a_sign_holds ?l_sign_holds ?c_sign_holds ?k_sign_holds ?a_holds ?l_holds ?c_holds ?k_holds ?a__law_state ?l__law_state ?c__law_state ?k__law_state ?a__law_draw ?l__law_draw ?c__law_draw ?k__law_draw ?a__law_pick ?l__law_pick ?c__law_pick ?k__law_pick ?a__law_number ?l__law_number ?c__law_number ?k__law_number ?a__law_names ?l__law_names ?c__law_names ?k__law_names ?a__law_is_int ?l__law_is_int ?c__law_is_int ?k__law_is_int ?a__law_same ?l__law_same ?c__law_same ?k__law_same ?a__law_holds ?l__law_holds ?c__law_holds ?k__law_holds ?a__law_reserved ?l__law_reserved ?c__law_reserved ?k__law_reserved ?a__law_bad_name ?l__law_bad_name ?c__law_bad_name ?k__law_bad_name ?a__law_bad_number ?l__law_bad_number ?c__law_bad_number ?k__law_bad_number ?fa_Condition___init__ ?fn_Condition___init__ ?l_Condition___init__ ?c_Condition___init__ ?k_Condition___init__ ?sg_Condition_compare ?sr_Condition_compare ?l_Condition_compare ?c_Condition_compare ?k_Condition_compare ?a__law_made ?l__law_made ?c__law_made ?k__law_made ?pa_Condition_fields ?ps_Condition_fields ?pt_Condition_fields ?pr_Condition_fields ?l_Condition_fields ?c_Condition_fields ?k_Condition_fields ?pa_Condition_size ?ps_Condition_size ?pt_Condition_size ?pr_Condition_size ?l_Condition_size ?c_Condition_size ?k_Condition_size ?fa_Condition___call__ ?fn_Condition___call__ ?fi_Condition___call__ ?l_Condition___call__ ?c_Condition___call__ ?k_Condition___call__ ?a__law_asked ?l__law_asked ?c__law_asked ?k__law_asked ?a__law_refused ?l__law_refused ?c__law_refused ?k__law_refused ?a_law ?l_law ?c_law ?k_law ?z_ValueError ?z_all ?z_bool ?z_dict ?z_int ?z_isinstance ?z_len ?z_list ?z_property ?z_range ?z_sorted ?z_staticmethod ?z_str ?z_super ?z_tuple ?g_BOUND ?g_LETTERS ?g_LONGEST_NAME ?g_RESERVED ?l_RESERVED ?v_RESERVED ?g_SIGNS ?l_SIGNS ?v_SIGNS ?g_BadName ?g_BadNumber ?g_BadSign ?g_ElseputError ?g_UnknownField ?st_any ?htop ?xc_BadName ?ref_BadName ?sa_BadName ?eb_BadName ?ty_BadName ?kC_BadName ?iC_BadName ?tI_BadName ?sup_BadName ?sv_BadName ?mro_BadName ?no0_BadName ?ga_BadName ?gg_BadName ?hd_BadName ?hcl_BadName ?hn_BadName ?ht_BadName ?hm_BadName ?lf_BadName ?cd_BadName ?lc_BadName ?v2_BadName ?fe_BadName ?lcc_BadName ?hD_BadName ?xc_BadNumber ?ref_BadNumber ?sa_BadNumber ?eb_BadNumber ?ty_BadNumber ?kC_BadNumber ?iC_BadNumber ?tI_BadNumber ?sup_BadNumber ?sv_BadNumber ?mro_BadNumber ?no0_BadNumber ?ga_BadNumber ?gg_BadNumber ?hd_BadNumber ?hcl_BadNumber ?hn_BadNumber ?ht_BadNumber ?hm_BadNumber ?lf_BadNumber ?cd_BadNumber ?lc_BadNumber ?v2_BadNumber ?fe_BadNumber ?lcc_BadNumber ?hD_BadNumber ?xc_BadSign ?ref_BadSign ?sa_BadSign ?eb_BadSign ?ty_BadSign ?kC_BadSign ?iC_BadSign ?tI_BadSign ?sup_BadSign ?sv_BadSign ?mro_BadSign ?no0_BadSign ?ga_BadSign ?gg_BadSign ?hd_BadSign ?hcl_BadSign ?hn_BadSign ?ht_BadSign ?hm_BadSign ?lf_BadSign ?cd_BadSign ?lc_BadSign ?v2_BadSign ?fe_BadSign ?lcc_BadSign ?hD_BadSign ?xc_UnknownField ?ref_UnknownField ?sa_UnknownField ?eb_UnknownField ?ty_UnknownField ?kC_UnknownField ?iC_UnknownField ?tI_UnknownField ?sv_UnknownField ?no0_UnknownField ?ga_UnknownField ?gg_UnknownField ?hd_UnknownField ?hcl_UnknownField ?hn_UnknownField ?ht_UnknownField ?hm_UnknownField ?lf_UnknownField ?cd_UnknownField ?lc_UnknownField ?v2_UnknownField ?fe_UnknownField ?lcc_UnknownField ?sup_UnknownField ?mro_UnknownField ?hD_UnknownField ?mb_ElseputError ?md_ElseputError ?mt_ElseputError ?ms_BadName_ElseputError ?ms_BadNumber_ElseputError ?ms_BadSign_ElseputError ?ms_UnknownField_ElseputError ?kit_BadName_BadName ?kit_BadName_BadSign ?kit_BadName_BadNumber ?kit_BadName_ValueError ?kit_BadNumber_BadName ?kit_BadNumber_BadSign ?kit_BadNumber_BadNumber ?kit_BadNumber_ValueError ?kit_BadSign_BadName ?kit_BadSign_BadSign ?kit_BadSign_BadNumber ?kit_BadSign_ValueError ?kit_UnknownField_BadName ?kit_UnknownField_BadSign ?kit_UnknownField_BadNumber ?kit_UnknownField_ValueError
    (case g_Condition => k_is)
    (case pg_Condition => k_is)
    (case hx_Condition => k_is)
    (case po_Condition => k_is)
    (case st_Condition => k_is)
    (case rr_Condition => k_is)
    (case rg_Condition => k_is)
    (case mi_Condition => k_is)
    (case ko_Condition => k_is)
    (case sf_Condition => k_is)
    (case na_Condition__fields => k_is)
    (case na_Condition_tree => k_is)
    (case cv_Condition_MOST => k_is)
    (case a_is_name => k_is)
    (case l_is_name => k_is)
    (case c_is_name => k_is)
    (case k_is_name => k_is)
    (case a_in_bound => k_is)
    (case l_in_bound => k_is)
    (case c_in_bound => k_is)
    (case k_in_bound => k_is)
    (case a_check_name => k_is)
    (case l_check_name => k_is)
    (case c_check_name => k_is)
    (case k_check_name => k_is)
    (case a_check_number => k_is)
    (case l_check_number => k_is)
    (case c_check_number => k_is)
    (case k_check_number => k_is)
    (case a_comparisons => k_is)
    (case l_comparisons => k_is)
    (case c_comparisons => k_is)
    (case k_comparisons => k_is)
    (case a_sign_holds => k_is)
    (case l_sign_holds => k_is)
    (case c_sign_holds => k_is)
    (case k_sign_holds => k_is)
    (case a_holds => k_is)
    (case l_holds => k_is)
    (case c_holds => k_is)
    (case k_holds => k_is)
    (case a__law_state => k_is)
    (case l__law_state => k_is)
    (case c__law_state => k_is)
    (case k__law_state => k_is)
    (case a__law_draw => k_is)
    (case l__law_draw => k_is)
    (case c__law_draw => k_is)
    (case k__law_draw => k_is)
    (case a__law_pick => k_is)
    (case l__law_pick => k_is)
    (case c__law_pick => k_is)
    (case k__law_pick => k_is)
    (case a__law_number => k_is)
    (case l__law_number => k_is)
    (case c__law_number => k_is)
    (case k__law_number => k_is)
    (case a__law_names => k_is)
    (case l__law_names => k_is)
    (case c__law_names => k_is)
    (case k__law_names => k_is)
    (case a__law_is_int => k_is)
    (case l__law_is_int => k_is)
    (case c__law_is_int => k_is)
    (case k__law_is_int => k_is)
    (case a__law_same => k_is)
    (case l__law_same => k_is)
    (case c__law_same => k_is)
    (case k__law_same => k_is)
    (case a__law_holds => k_is)
    (case l__law_holds => k_is)
    (case c__law_holds => k_is)
    (case k__law_holds => k_is)
    (case a__law_reserved => k_is)
    (case l__law_reserved => k_is)
    (case c__law_reserved => k_is)
    (case k__law_reserved => k_is)
    (case a__law_bad_name => k_is)
    (case l__law_bad_name => k_is)
    (case c__law_bad_name => k_is)
    (case k__law_bad_name => k_is)
    (case a__law_bad_number => k_is)
    (case l__law_bad_number => k_is)
    (case c__law_bad_number => k_is)
    (case k__law_bad_number => k_is)
    (case fa_Condition___init__ => k_is)
    (case fn_Condition___init__ => k_is)
    (case l_Condition___init__ => k_is)
    (case c_Condition___init__ => k_is)
    (case k_Condition___init__ => k_is)
    (case sg_Condition_compare => k_is)
    (case sr_Condition_compare => k_is)
    (case l_Condition_compare => k_is)
    (case c_Condition_compare => k_is)
    (case k_Condition_compare => k_is)
    (case a__law_made => k_is)
    (case l__law_made => k_is)
    (case c__law_made => k_is)
    (case k__law_made => k_is)
    (case pa_Condition_fields => k_is)
    (case ps_Condition_fields => k_is)
    (case pt_Condition_fields => k_is)
    (case pr_Condition_fields => k_is)
    (case l_Condition_fields => k_is)
    (case c_Condition_fields => k_is)
    (case k_Condition_fields => k_is)
    (case pa_Condition_size => k_is)
    (case ps_Condition_size => k_is)
    (case pt_Condition_size => k_is)
    (case pr_Condition_size => k_is)
    (case l_Condition_size => k_is)
    (case c_Condition_size => k_is)
    (case k_Condition_size => k_is)
    (case fa_Condition___call__ => k_is)
    (case fn_Condition___call__ => k_is)
    (case fi_Condition___call__ => k_is)
    (case l_Condition___call__ => k_is)
    (case c_Condition___call__ => k_is)
    (case k_Condition___call__ => k_is)
    (case a__law_asked => k_is)
    (case l__law_asked => k_is)
    (case c__law_asked => k_is)
    (case k__law_asked => k_is)
    (case a__law_refused => k_is)
    (case l__law_refused => k_is)
    (case c__law_refused => k_is)
    (case k__law_refused => k_is)
    (case a_law => k_is)
    (case l_law => k_is)
    (case c_law => k_is)
    (case k_law => k_is)
    (case z_ValueError => k_is)
    (case z_all => k_is)
    (case z_bool => k_is)
    (case z_dict => k_is)
    (case z_int => k_is)
    (case z_isinstance => k_is)
    (case z_len => k_is)
    (case z_list => k_is)
    (case z_property => k_is)
    (case z_range => k_is)
    (case z_sorted => k_is)
    (case z_staticmethod => k_is)
    (case z_str => k_is)
    (case z_super => k_is)
    (case z_tuple => k_is)
    (case g_BOUND => k_is)
    (case g_LETTERS => k_is)
    (case g_LONGEST_NAME => k_is)
    (case g_RESERVED => k_is)
    (case l_RESERVED => k_is)
    (case v_RESERVED => (repeat' first | exact .nil | refine .cons ⟨_, rfl⟩ ?_))
    (case g_SIGNS => k_is)
    (case l_SIGNS => k_is)
    (case v_SIGNS => (repeat' first | exact .nil | refine .cons ⟨_, rfl⟩ ?_))
    (case g_BadName => k_is)
    (case g_BadNumber => k_is)
    (case g_BadSign => k_is)
    (case g_ElseputError => k_is)
    (case g_UnknownField => k_is)
    (case st_any => k_is)
    (case htop => first | rfl | decide +kernel | k_is)
    (case xc_BadName => k_is)
    (case ref_BadName => first | rfl | decide +kernel | k_is)
    (case sa_BadName => k_is)
    (case eb_BadName => k_is)
    (case ty_BadName => k_is)
    (case kC_BadName => k_is)
    (case iC_BadName => k_is)
    (case tI_BadName => k_is)
    (case sup_BadName => ks_is)
    (case sv_BadName => k_is)
    (case mro_BadName => k_is)
    (case no0_BadName => k_is)
    (case ga_BadName => k_is)
    (case gg_BadName => k_is)
    (case hd_BadName => k_is)
    (case hcl_BadName => k_is)
    (case hn_BadName => k_is)
    (case ht_BadName => k_is)
    (case hm_BadName => k_is)
    (case lf_BadName => k_is)
    (case cd_BadName => k_is)
    (case lc_BadName => k_is)
    (case v2_BadName => first | rfl | decide +kernel | k_is)
    (case fe_BadName => first | rfl | decide +kernel | k_is)
    (case lcc_BadName => k_is)
    (case hD_BadName => k_is)
    (case xc_BadNumber => k_is)
    (case ref_BadNumber => first | rfl | decide +kernel | k_is)
    (case sa_BadNumber => k_is)
    (case eb_BadNumber => k_is)
    (case ty_BadNumber => k_is)
    (case kC_BadNumber => k_is)
    (case iC_BadNumber => k_is)
    (case tI_BadNumber => k_is)
    (case sup_BadNumber => ks_is)
    (case sv_BadNumber => k_is)
    (case mro_BadNumber => k_is)
    (case no0_BadNumber => k_is)
    (case ga_BadNumber => k_is)
    (case gg_BadNumber => k_is)
    (case hd_BadNumber => k_is)
    (case hcl_BadNumber => k_is)
    (case hn_BadNumber => k_is)
    (case ht_BadNumber => k_is)
    (case hm_BadNumber => k_is)
    (case lf_BadNumber => k_is)
    (case cd_BadNumber => k_is)
    (case lc_BadNumber => k_is)
    (case v2_BadNumber => first | rfl | decide +kernel | k_is)
    (case fe_BadNumber => first | rfl | decide +kernel | k_is)
    (case lcc_BadNumber => k_is)
    (case hD_BadNumber => k_is)
    (case xc_BadSign => k_is)
    (case ref_BadSign => first | rfl | decide +kernel | k_is)
    (case sa_BadSign => k_is)
    (case eb_BadSign => k_is)
    (case ty_BadSign => k_is)
    (case kC_BadSign => k_is)
    (case iC_BadSign => k_is)
    (case tI_BadSign => k_is)
    (case sup_BadSign => ks_is)
    (case sv_BadSign => k_is)
    (case mro_BadSign => k_is)
    (case no0_BadSign => k_is)
    (case ga_BadSign => k_is)
    (case gg_BadSign => k_is)
    (case hd_BadSign => k_is)
    (case hcl_BadSign => k_is)
    (case hn_BadSign => k_is)
    (case ht_BadSign => k_is)
    (case hm_BadSign => k_is)
    (case lf_BadSign => k_is)
    (case cd_BadSign => k_is)
    (case lc_BadSign => k_is)
    (case v2_BadSign => first | rfl | decide +kernel | k_is)
    (case fe_BadSign => first | rfl | decide +kernel | k_is)
    (case lcc_BadSign => k_is)
    (case hD_BadSign => k_is)
    (case xc_UnknownField => k_is)
    (case ref_UnknownField => first | rfl | decide +kernel | k_is)
    (case sa_UnknownField => k_is)
    (case eb_UnknownField => k_is)
    (case ty_UnknownField => k_is)
    (case kC_UnknownField => k_is)
    (case iC_UnknownField => k_is)
    (case tI_UnknownField => k_is)
    (case sv_UnknownField => k_is)
    (case no0_UnknownField => k_is)
    (case ga_UnknownField => k_is)
    (case gg_UnknownField => k_is)
    (case hd_UnknownField => k_is)
    (case hcl_UnknownField => k_is)
    (case hn_UnknownField => k_is)
    (case ht_UnknownField => k_is)
    (case hm_UnknownField => k_is)
    (case lf_UnknownField => k_is)
    (case cd_UnknownField => k_is)
    (case lc_UnknownField => k_is)
    (case v2_UnknownField => first | rfl | decide +kernel | k_is)
    (case fe_UnknownField => first | rfl | decide +kernel | k_is)
    (case lcc_UnknownField => k_is)
    (case sup_UnknownField => ks_is)
    (case mro_UnknownField => k_is)
    (case hD_UnknownField => k_is)
    (case mb_ElseputError => k_is)
    (case md_ElseputError => k_is)
    (case mt_ElseputError => k_is)
    (case ms_BadName_ElseputError => k_is)
    (case ms_BadNumber_ElseputError => k_is)
    (case ms_BadSign_ElseputError => k_is)
    (case ms_UnknownField_ElseputError => k_is)
    (case kit_BadName_BadName => kit_is)
    (case kit_BadName_BadSign => kit_is)
    (case kit_BadName_BadNumber => kit_is)
    (case kit_BadName_ValueError => kit_is)
    (case kit_BadNumber_BadName => kit_is)
    (case kit_BadNumber_BadSign => kit_is)
    (case kit_BadNumber_BadNumber => kit_is)
    (case kit_BadNumber_ValueError => kit_is)
    (case kit_BadSign_BadName => kit_is)
    (case kit_BadSign_BadSign => kit_is)
    (case kit_BadSign_BadNumber => kit_is)
    (case kit_BadSign_ValueError => kit_is)
    (case kit_UnknownField_BadName => kit_is)
    (case kit_UnknownField_BadSign => kit_is)
    (case kit_UnknownField_BadNumber => kit_is)
    (case kit_UnknownField_ValueError => kit_is)
