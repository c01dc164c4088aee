import PyProof.Rows.All
import Wide.All
import OpenK.AllK
import Wide.FinOn
import HandS.ForMost
import HandS.Wide
import HandS.TupAny
import HandS.IsInst
import HandS.Flow
import HandS.Evl
import HandS.Walk
import HandS.ExcInit
import HandS.Nested
import HandS.FStr
import HandS.TryOnly
import HandS.TryMany
import HandS.ExcIs
import HandS.ExcField
import HandS.WordsExc
import HandS.RaiseMore
import KE.KExcSuper
import KE.KExcIs
import PyProof.StrOps2
import PyProof.Rows.ReprOcc
import PyProof.Rows.StrDigits
import PyProof.Rows.StrJoinMade
import HandS.ClsMeth
import HandS.Star
import HandS.Property
import HandS.New
import HandS.ExcOwn
import HandS.More
import HandS.Dict
import HandS.Small
import KE.KOpsOwn
import OpenK.KMeth
import HandS.Conv
import HandS.Finally
import PyProof.StrLawsRepr
import PySem.Challenge.RW_elseput_k11_change_of_content
set_option Elab.async false
set_option linter.all false
set_option maxRecDepth 100000
/-! Own words over the hand layer: readings that compute on the values' shapes. -/
namespace El
open PySem PySem.Spec PyProof.Rows L2
section
variable {X : Cx}

theorem wk {e : Expr} {t t' : TE} (h : PE X e t) (i : ∀ σ H Q, t' σ H Q → t σ H Q) : PE X e t' :=
  ⟨fun pins s σ H Q I q => h.run pins s σ H Q I (i σ H Q q)⟩
theorem opwk {f : Value → Value → Sem Value} {r r' : R2} (h : OpR X f r) (i : ∀ x y H Q, r' x y H Q → r x y H Q) : OpR X f r' :=
  fun pins s σ H x y v u Q I rx ry q => h pins s σ H x y v u Q I rx ry (i x y H Q q)
theorem unwk {f : Value → Sem Value} {r r' : V → Hp → VK → Prop} (h : UnR X f r) (i : ∀ x H Q, r' x H Q → r x H Q) : UnR X f r' :=
  fun pins s σ H x v Q I rx q => h pins s σ H x v Q I rx (i x H Q q)
theorem cwk {f : Value} {r r' : List V → Hp → VK → Prop} (h : CallR X f r) (i : ∀ x H Q, r' x H Q → r x H Q) : CallR X f r' :=
  fun pins s σ H x v Q I rx q => h pins s σ H x v Q I rx (i x H Q q)
theorem ixwk {r r' : R2} (h : IxR X r) (i : ∀ x y H Q, r' x y H Q → r x y H Q) : IxR X r' :=
  fun a b pins s σ H x y v u Q I rx ry q => h a b pins s σ H x y v u Q I rx ry (i x y H Q q)
theorem slwk {r r' : V → Option Int → Option Int → Hp → VK → Prop} (h : SlR X r) (i : ∀ x a b H Q, r' x a b H Q → r x a b H Q) : SlR X r' :=
  fun pins s σ H x v vl vu lo hi sl Q I rx hs pl pu q => h pins s σ H x v vl vu lo hi sl Q I rx hs pl pu (i x lo hi H Q q)

/-! ### a name in its slot -/
def tV (i : Nat) : TE := fun σ H Q => match σ[i]? with | some (some v) => Q v H | _ => False
theorem v_ (i : Nat) {x : Str} {pos : Pos} (hN : X.N[i]? = some x := by rfl) (hv : Vis X.env.scope x := by first | exact Or.inl rfl | exact Or.inr (Or.inl rfl) | exact Or.inr (Or.inr rfl)) (hd : (x == ("__debug__" : Str)) = false := by decide)
    (hcd : (x == ("__classdict__" : Str)) = false := by decide) : PE X (.Name x pos) (tV i) :=
  wk (pv i hN hv hd hcd) fun σ H Q q => by
    unfold tV at q
    split at q
    · rename_i v e; exact ⟨v, e, q⟩
    · exact q.elim

/-! ### operators -/
def addM (K : PySem.W.Frag) : R2 := fun x y H Q => match x, y with
  | .int i, .int j => Q (.int (i + j)) H
  | .str i, .str j => i.length + j.length ≤ sizeLine ∧ Q (.str (i ++ j)) H
  | .ref a, .ref b => (∃ xs zs, H a = some (.lst xs) ∧ H b = some (.lst zs) ∧ xs.length + zs.length ≤ sizeLine ∧ ∀ p, H p = none → Q (.ref p) (upd H p (.lst (xs ++ zs)))) ∨ rCatT K (.ref a) (.ref b) H Q
  | _, _ => False
theorem op_addM : OpR X (binaryOp .Add) (addM X.K) := opwk (OpR.or op_add (OpR.or op_add_str (OpR.or op_cat op_catT))) fun x y H Q q => by
  unfold addM at q
  split at q
  · exact .inl ⟨_, _, rfl, rfl, q⟩
  · exact .inr (.inl ⟨_, _, rfl, rfl, q⟩)
  · rcases q with ⟨xs, zs, h1, h2, h3, h4⟩ | q
    · exact .inr (.inr (.inl ⟨_, _, xs, zs, rfl, rfl, h1, h2, h3, h4⟩))
    · exact .inr (.inr (.inr q))
  · exact q.elim
def subM : R2 := fun x y H Q => match x, y with
  | .int i, .int j => Q (.int (i - j)) H
  | _, _ => False
theorem op_subM : OpR X (binaryOp .Sub) subM := opwk op_sub fun x y H Q q => by
  unfold subM at q
  split at q
  · exact ⟨_, _, rfl, rfl, q⟩
  · exact q.elim
def mulM : R2 := fun x y H Q => match x, y with
  | .int i, .int j => (CMul i j ∨ CMulW i j) ∧ Q (.int (i * j)) H
  | .ref l, .int k => ∃ xs, H l = some (.lst xs) ∧ (-(2 ^ 63) ≤ k ∧ k < 2 ^ 63) ∧ xs.length * k.toNat ≤ sizeLine ∧ ∀ p, H p = none → Q (.ref p) (upd H p (.lst (List.replicate k.toNat xs).flatten))
  | _, _ => False
theorem op_mulM : OpR X (binaryOp .Mult) mulM := opwk (OpR.or op_mul (OpR.or op_mulW op_rep)) fun x y H Q q => by
  unfold mulM at q
  split at q
  · obtain ⟨h | h, q⟩ := q
    · exact .inl ⟨_, _, rfl, rfl, h, q⟩
    · exact .inr (.inl ⟨_, _, rfl, rfl, h, q⟩)
  · obtain ⟨xs, h1, h2, h3, h4⟩ := q
    exact .inr (.inr ⟨_, _, xs, rfl, rfl, h1, h2.1, h2.2, h3, h4⟩)
  · exact q.elim
def divM : R2 := fun x y H Q => match x, y with
  | .int i, .int j => (CDiv i j ∨ CDivW i j) ∧ Q (.int (i / j)) H
  | _, _ => False
theorem op_divM : OpR X (binaryOp .FloorDiv) divM := opwk (OpR.or op_fdiv op_fdivW) fun x y H Q q => by
  unfold divM at q
  split at q
  · obtain ⟨h | h, q⟩ := q
    · exact .inl ⟨_, _, rfl, rfl, h, q⟩
    · exact .inr ⟨_, _, rfl, rfl, h, q⟩
  · exact q.elim
def modM : R2 := fun x y H Q => match x, y with
  | .int i, .int j => 0 < j ∧ Q (.int (i % j)) H
  | _, _ => False
theorem op_modM : OpR X (binaryOp .Mod) modM := opwk op_mod fun x y H Q q => by
  unfold modM at q
  split at q
  · exact ⟨_, _, rfl, rfl, q.1, q.2⟩
  · exact q.elim
def powM : R2 := fun x y H Q => match x, y with
  | .int i, .int j => CPow i j ∧ Q (.int (i ^ j.toNat)) H
  | _, _ => False
theorem op_powM : OpR X (binaryOp .Pow) powM := opwk op_pow fun x y H Q q => by
  unfold powM at q
  split at q
  · exact ⟨_, _, rfl, rfl, q.1, q.2⟩
  · exact q.elim
def negM : V → Hp → VK → Prop := fun x H Q => match x with
  | .int i => Q (.int (-i)) H
  | _ => False
theorem un_negM : UnR X (unaryOp .USub) negM := unwk un_neg fun x H Q q => by
  unfold negM at q
  split at q
  · exact ⟨_, rfl, q⟩
  · exact q.elim

/-! ### comparisons -/
def cmpM (f : Int → Int → Bool) : R2 := fun x y H Q => match x, y with
  | .int i, .int j => Q (.bl (f i j)) H
  | _, _ => False
theorem cmpwk {f : Int → Int → Bool} {g : Value → Value → Sem Value} (h : OpR X g (rI0 fun i j => .bl (f i j))) : OpR X g (cmpM f) := opwk h fun x y H Q q => by
  unfold cmpM at q
  split at q
  · exact ⟨_, _, rfl, rfl, q⟩
  · exact q.elim
theorem op_ltM : OpR X (compareOp .Lt) (cmpM fun i j => decide (i < j)) := cmpwk op_lt
theorem op_leM : OpR X (compareOp .LtE) (cmpM fun i j => decide (i ≤ j)) := cmpwk op_le
theorem op_gtM : OpR X (compareOp .Gt) (cmpM fun i j => decide (j < i)) := cmpwk op_gt
theorem op_geM : OpR X (compareOp .GtE) (cmpM fun i j => decide (j ≤ i)) := cmpwk op_ge
/-- ==: of plain values by the values; else of data -/
def eqM (K : PySem.W.Frag) : R2 := fun x y H Q => match x, y with
  | .int i, .int j => Q (.bl (decide (i = j))) H
  | .str i, .str j => Q (.bl (decide (i = j))) H
  | .bl i, .bl j => Q (.bl (decide (i = j))) H
  | .non, .non => Q (.bl true) H
  | .non, .int _ => Q (.bl false) H
  | .int _, .non => Q (.bl false) H
  | .non, .str _ => Q (.bl false) H
  | .str _, .non => Q (.bl false) H
  | .non, .bl _ => Q (.bl false) H
  | .bl _, .non => Q (.bl false) H
  | .int _, .str _ => Q (.bl false) H
  | .str _, .int _ => Q (.bl false) H
  | .bl _, .str _ => Q (.bl false) H
  | .str _, .bl _ => Q (.bl false) H
  | x, y => rEqD K x y H Q
theorem op_eqM (hu : X.A.units + 64 < cLine) : OpR X (compareOp .Eq) (eqM X.K) := opwk (OpR.or op_eq (op_eqD hu)) fun x y H Q q => by
  unfold eqM at q
  split at q
  all_goals first
    | exact .inl ⟨rfl, by simpa using q⟩
    | exact .inr q
def neM (K : PySem.W.Frag) : R2 := fun x y H Q => match x, y with
  | .int i, .int j => Q (.bl (!decide (i = j))) H
  | .str i, .str j => Q (.bl (!decide (i = j))) H
  | .bl i, .bl j => Q (.bl (!decide (i = j))) H
  | .non, .non => Q (.bl false) H
  | .non, .int _ => Q (.bl true) H
  | .int _, .non => Q (.bl true) H
  | .non, .str _ => Q (.bl true) H
  | .str _, .non => Q (.bl true) H
  | .non, .bl _ => Q (.bl true) H
  | .bl _, .non => Q (.bl true) H
  | .int _, .str _ => Q (.bl true) H
  | .str _, .int _ => Q (.bl true) H
  | .bl _, .str _ => Q (.bl true) H
  | .str _, .bl _ => Q (.bl true) H
  | x, y => rNeD K x y H Q
theorem op_neM (hu : X.A.units + 64 < cLine) : OpR X (compareOp .NotEq) (neM X.K) := opwk (OpR.or op_ne (op_neD hu)) fun x y H Q q => by
  unfold neM at q
  split at q
  all_goals first
    | exact .inl ⟨rfl, by simpa using q⟩
    | exact .inr q
/-- is, is not: None, True, False -/
def isV (x y : V) : Bool := match x, y with
  | .non, .non => true
  | .bl a, .bl b => a == b
  | _, _ => false
def litV (y : V) : Bool := match y with | .non => true | .bl _ => true | _ => false
def isM : R2 := fun x y H Q => match litV y with | true => Q (.bl (isV x y)) H | false => False
def notM : R2 := fun x y H Q => match litV y with | true => Q (.bl (!isV x y)) H | false => False
theorem lit_cases {y : V} (h : litV y = true) : y = .non ∨ ∃ b, y = .bl b := by
  cases y with
  | non => exact .inl rfl
  | bl b => exact .inr ⟨b, rfl⟩
  | _ => exact absurd (show false = true from h) (by decide)
theorem is_other {A : Around} {E : Value → Shared → Prop} {M : Model} {x : V} {v : Value} {b : Bool} {s : Shared} {Q : Value → Shared → Prop} (rx : RelV x v) (h : Q (.bool (isV x (.bl b))) s) : wpAny M A (compareOp .Is v (.bool b)) Q E s := by
  cases x with
  | bl a =>
    cases rx
    by_cases e : a = b
    · subst e; exact wpAny_is_self rfl (by simpa [isV] using h)
    · exact wpAny_is_other rfl (fun z => e (Value.bool.inj z)) (by rw [show isV (.bl a) (.bl b) = false from beq_eq_false_iff_ne.mpr e] at h; exact h)
  | non => cases rx; exact wpAny_is_other rfl (by intro z; cases z) h
  | int i => obtain ⟨t, rfl⟩ := rx; exact wpAny_is_other rfl (by intro z; cases z) h
  | str i => obtain ⟨t, rfl⟩ := rx; exact wpAny_is_other rfl (by intro z; cases z) h
  | byt i => obtain ⟨t, rfl⟩ := rx; exact wpAny_is_other rfl (by intro z; cases z) h
  | flt i => obtain ⟨t, rfl⟩ := rx; exact wpAny_is_other rfl (by intro z; cases z) h
  | ref a => cases rx; exact wpAny_is_other rfl (by intro z; cases z) h
  | ty n => cases rx; exact wpAny_is_other rfl (by intro z; cases z) h
theorem isnot_other {A : Around} {E : Value → Shared → Prop} {M : Model} {x : V} {v : Value} {b : Bool} {s : Shared} {Q : Value → Shared → Prop} (rx : RelV x v) (h : Q (.bool (!isV x (.bl b))) s) : wpAny M A (compareOp .IsNot v (.bool b)) Q E s := by
  cases x with
  | bl a =>
    cases rx
    by_cases e : a = b
    · subst e; exact wpAny_isNot_self rfl (by simpa [isV] using h)
    · exact wpAny_isNot_other rfl (fun z => e (Value.bool.inj z)) (by rw [show isV (.bl a) (.bl b) = false from beq_eq_false_iff_ne.mpr e] at h; exact h)
  | non => cases rx; exact wpAny_isNot_other rfl (by intro z; cases z) h
  | int i => obtain ⟨t, rfl⟩ := rx; exact wpAny_isNot_other rfl (by intro z; cases z) h
  | str i => obtain ⟨t, rfl⟩ := rx; exact wpAny_isNot_other rfl (by intro z; cases z) h
  | byt i => obtain ⟨t, rfl⟩ := rx; exact wpAny_isNot_other rfl (by intro z; cases z) h
  | flt i => obtain ⟨t, rfl⟩ := rx; exact wpAny_isNot_other rfl (by intro z; cases z) h
  | ref a => cases rx; exact wpAny_isNot_other rfl (by intro z; cases z) h
  | ty n => cases rx; exact wpAny_isNot_other rfl (by intro z; cases z) h
theorem isV_non (x : V) : isV x .non = decide (x = .non) := by cases x <;> rfl
theorem op_isM : OpR X (compareOp .Is) isM := by
  intro pins s σ H x y v u Q I rx ry q
  unfold isM at q
  split at q
  · rename_i e
    rcases lit_cases e with rfl | ⟨b, rfl⟩
    · exact op_isN pins s σ H x .non v u Q I rx ry ⟨rfl, by rw [← isV_non]; exact q⟩
    · cases ry
      exact is_other rx ⟨.bl _, H, I, rfl, q⟩
  · exact q.elim
theorem op_isNotM : OpR X (compareOp .IsNot) notM := by
  intro pins s σ H x y v u Q I rx ry q
  unfold notM at q
  split at q
  · rename_i e
    rcases lit_cases e with rfl | ⟨b, rfl⟩
    · exact op_notN pins s σ H x .non v u Q I rx ry ⟨rfl, by rw [← isV_non]; exact q⟩
    · cases ry
      exact isnot_other rx ⟨.bl _, H, I, rfl, q⟩
  · exact q.elim
/-- in: a list or a tuple of plain things; a sign in a text -/
def inM (K : PySem.W.Frag) (neg : Bool) : R2 := fun x y H Q => match y with
  | .str z => ∃ c : Nat, x = .str ⟨#[c]⟩ ∧ Q (.bl (if neg then !decide (c ∈ z.cps.toList) else decide (c ∈ z.cps.toList))) H
  | .ref p => ∃ xs, (SqL K H p xs ∨ SqT K H p xs) ∧ flatV x = true ∧ xs.all flatV = true ∧ Q (.bl (if neg then !inV x xs else inV x xs)) H
  | _ => False
theorem op_inM : OpR X (compareOp .In) (inM X.K false) := opwk (OpR.or op_in_sign op_in_seq) fun x y H Q q => by
  unfold inM at q
  split at q
  · obtain ⟨c, e, q⟩ := q
    exact .inl ⟨c, _, e, rfl, q⟩
  · obtain ⟨xs, h1, h2, h3, q⟩ := q
    exact .inr ⟨_, xs, rfl, h1, h2, h3, q⟩
  · exact q.elim
theorem op_notInM : OpR X (compareOp .NotIn) (inM X.K true) := opwk (OpR.or op_notIn_sign op_notIn_seq) fun x y H Q q => by
  unfold inM at q
  split at q
  · obtain ⟨c, e, q⟩ := q
    exact .inl ⟨c, _, e, rfl, q⟩
  · obtain ⟨xs, h1, h2, h3, q⟩ := q
    exact .inr ⟨_, xs, rfl, h1, h2, h3, q⟩
  · exact q.elim

/-! ### tests -/
variable {a b : Expr} {rest : List Expr} {ta tb : TE} {pos : Pos}
def tTs (t : TE) : TT := fun σ H Q => t σ H fun x H' => match x with | .bl k => Q k H' | _ => False
theorem pt_c {op : CmpOp} {r : R2} (ho : OpR X (compareOp op) r) (ha : PE X a ta) (hb : PE X b tb) (hm : behindInMarks op b = false := by first | exact nomark _ | rfl) : PT X (.Compare a [op] [b] pos) (tTs (tOp r ta tb)) := by
  refine ⟨fun pins s σ H Q I h => ?_⟩
  refine wpAny_isTrue_Compare1 (thn (ha.run pins s σ H _ I h) fun v s1 ⟨x, H1, I1, r1, q1⟩ => thn (hb.run pins s1 σ H1 _ I1 q1) fun u s2 ⟨y, H2, I2, r2, q2⟩ =>
    thn (ho pins s2 σ H2 x y v u _ I2 r1 r2 q2) fun c s3 ⟨z, H3, I3, r3, q3⟩ => ?_) hm
  cases z with
  | bl k => cases r3; exact wpAny_truthy_bool ⟨H3, I3, q3⟩
  | _ => exact (show False from q3).elim
theorem pe_c {op : CmpOp} {r : R2} (ho : OpR X (compareOp op) r) (ha : PE X a ta) (hb : PE X b tb) (hm : behindInMarks op b = false := by first | exact nomark _ | rfl) : PE X (.Compare a [op] [b] pos) (tOp r ta tb) := pe_cmpR ho ha hb hm
/-- any value's truth -/
def tTr (K : PySem.W.Frag) (t : TE) : TT := fun σ H Q => t σ H fun x H' => match x with
  | .bl k => Q k H'
  | .non => Q false H'
  | .int i => Q (i != 0) H'
  | .str y => y.length ≤ sizeLine ∧ Q ((y.length : Int) != 0) H'
  | .ref p => (∃ xs, SqL K H' p xs ∧ Q (!xs.isEmpty) H') ∨ (∃ xs, SqT K H' p xs ∧ Q (!xs.isEmpty) H') ∨ ∃ kvs, H' p = some (.dK kvs) ∧ Q (!kvs.isEmpty) H'
  | _ => False
theorem pt_tr (ha : PE X a ta) (he : ∀ whole, isTrue a X.env whole = (do let v ← whole; standAt a.pos; holding [v] (truthy v)) := by intro _; rfl) : PT X a (tTr X.K ta) := by
  refine ⟨fun pins s σ H Q I h => ?_⟩
  refine isTrue_plain (thn (ha.run pins s σ H _ I h) fun v s1 ⟨x, H1, I1, r1, q1⟩ => tru_ok pins s1 σ H1 x v Q I1 r1 ?_) (he _)
  cases x with
  | bl k => exact ⟨k, rfl, q1⟩
  | non => exact ⟨false, rfl, q1⟩
  | int i => exact ⟨_, rfl, q1⟩
  | str y => exact ⟨_, ⟨q1.1, rfl⟩, q1.2⟩
  | ref p =>
    rcases (show (∃ xs, SqL X.K H1 p xs ∧ Q (!xs.isEmpty) H1) ∨ (∃ xs, SqT X.K H1 p xs ∧ Q (!xs.isEmpty) H1) ∨ ∃ kvs, H1 p = some (.dK kvs) ∧ Q (!kvs.isEmpty) H1 from q1) with ⟨xs, h, q⟩ | ⟨xs, h, q⟩ | ⟨xs, h, q⟩
    · exact ⟨_, .inl ⟨xs, h, rfl⟩, q⟩
    · exact ⟨_, .inr (.inl ⟨xs, h, rfl⟩), q⟩
    · exact ⟨_, .inr (.inr ⟨xs, h, rfl⟩), q⟩
  | _ => exact (show False from q1).elim
def tAndM (ta tb : TE) : TE := fun σ H Q => ta σ H fun x H1 => match x with | .bl c => (if c = true then tb σ H1 Q else Q (.bl false) H1) | _ => False
def tOrM (ta tb : TE) : TE := fun σ H Q => ta σ H fun x H1 => match x with | .bl c => (if c = true then Q (.bl true) H1 else tb σ H1 Q) | _ => False
def tNotM (ta : TE) : TE := fun σ H Q => ta σ H fun x H1 => match x with | .bl c => Q (.bl (!c)) H1 | _ => False
theorem pe_andM (ha : PE X a ta) (hb : PE X (.BoolOp .And (b :: rest) pos) tb) : PE X (.BoolOp .And (a :: b :: rest) pos) (tAndM ta tb) := by
  refine ⟨fun pins s σ H Q I h => ?_⟩
  refine BoolOp_and (thn (ha.run pins s σ H _ I h) fun v s1 ⟨x, H1, I1, r1, q1⟩ => ?_)
  cases x with
  | bl c =>
    cases r1
    refine wpAny_truthy_bool ?_
    cases c with
    | true => exact hb.run pins s1 σ H1 Q I1 q1
    | false => exact ⟨.bl false, H1, I1, rfl, q1⟩
  | _ => exact (show False from q1).elim
theorem pe_orM (ha : PE X a ta) (hb : PE X (.BoolOp .Or (b :: rest) pos) tb) : PE X (.BoolOp .Or (a :: b :: rest) pos) (tOrM ta tb) := by
  refine ⟨fun pins s σ H Q I h => ?_⟩
  refine BoolOp_or (thn (ha.run pins s σ H _ I h) fun v s1 ⟨x, H1, I1, r1, q1⟩ => ?_)
  cases x with
  | bl c =>
    cases r1
    refine wpAny_truthy_bool ?_
    cases c with
    | false => exact hb.run pins s1 σ H1 Q I1 q1
    | true => exact ⟨.bl true, H1, I1, rfl, q1⟩
  | _ => exact (show False from q1).elim
theorem pe_notM (ha : PE X a ta) : PE X (.UnaryOp .Not a pos) (tNotM ta) := by
  refine ⟨fun pins s σ H Q I h => ?_⟩
  refine UnaryOp_ (thn (ha.run pins s σ H _ I h) fun v s1 ⟨x, H1, I1, r1, q1⟩ => ?_)
  cases x with
  | bl c => cases r1; exact not_of (wpAny_truthy_bool ⟨.bl (!c), H1, I1, rfl, q1⟩)
  | _ => exact (show False from q1).elim

/-! ### subscripts, slices, calls of built-ins -/
def ixM (K : PySem.W.Frag) : R2 := fun x y H Q => match x, y with
  | .str z, .int i => z.length ≤ sizeLine ∧ ∃ c, atI z.cps.toList i = some c ∧ Q (.str ⟨#[c]⟩) H
  | .ref p, .int i => ∃ xs, (SqL K H p xs ∨ SqT K H p xs) ∧ ∃ v, atI xs i = some v ∧ Q v H
  | _, _ => False
theorem ix_M : IxR X (ixM X.K) := ixwk ix_seq fun x y H Q q => by
  unfold ixM at q
  split at q
  · obtain ⟨h, c, e, q⟩ := q
    exact .inr (.inr ⟨_, _, c, rfl, rfl, h, e, q⟩)
  · obtain ⟨xs, h | h, v, e, q⟩ := q
    · exact .inl ⟨_, xs, _, v, rfl, rfl, h, e, q⟩
    · exact .inr (.inl ⟨_, xs, _, v, rfl, rfl, h, e, q⟩)
  · exact q.elim
theorem e_ix (ha : PE X a ta) (hb : PE X b tb) (hs : PlainIx b := by intro _ _; rfl) : PE X (.Subscript a b pos) (tOp (ixM X.K) ta tb) := pe_ix ix_M ha hb hs
def slM (K : PySem.W.Frag) : V → Option Int → Option Int → Hp → VK → Prop := fun x lo hi H Q => match x with
  | .str z => z.length ≤ sizeLine ∧ Q (.str (cutS z lo hi)) H
  | .ref p => (∃ xs, SqL K H p xs ∧ ∀ q, H q = none → Q (.ref q) (upd H q (.lst (cutV xs lo hi)))) ∨ rSlT K (.ref p) lo hi H Q
  | _ => False
theorem sl_M : SlR X (slM X.K) := slwk (SlR.or sl_str (SlR.or sl_list sl_tup)) fun x lo hi H Q q => by
  unfold slM at q
  split at q
  · exact .inl ⟨_, rfl, q.1, q.2⟩
  · rcases q with ⟨xs, h, q⟩ | q
    · exact .inr (.inl ⟨_, xs, rfl, h, q⟩)
    · exact .inr (.inr q)
  · exact q.elim
def intM : List V → Hp → VK → Prop := fun xs H Q => match xs with
  | [.int i] => Q (.int i) H
  | [.bl k] => Q (.int (if k then 1 else 0)) H
  | [.str a] => ∃ n, PySem.intText? a = some n ∧ a.length ≤ 640 ∧ Q (.int n) H
  | _ => False
theorem call_intM : CallR X (.type "int") intM := cwk (CallR.or call_int1 call_int_str) fun xs H Q q => by
  unfold intM at q
  split at q
  · exact .inl (.inl ⟨_, rfl, q⟩)
  · exact .inl (.inr ⟨_, rfl, q⟩)
  · obtain ⟨n, h1, h2, q⟩ := q
    exact .inr ⟨_, n, rfl, h1, h2, q⟩
  · exact q.elim
def lenM (K : PySem.W.Frag) : List V → Hp → VK → Prop := fun xs H Q => match xs with
  | [.str z] => z.length ≤ sizeLine ∧ Q (.int z.length) H
  | [.ref p] => (∃ xs, (SqL K H p xs ∨ SqT K H p xs) ∧ Q (.int xs.length) H) ∨ ∃ kvs, H p = some (.dK kvs) ∧ Q (.int kvs.length) H
  | _ => False
theorem call_lenM : CallR X (.builtin "len") (lenM X.K) := cwk (CallR.or call_len_str (CallR.or call_len_seq call_lenD)) fun xs H Q q => by
  unfold lenM at q
  split at q
  · exact .inl ⟨_, rfl, q.1, q.2⟩
  · rcases q with ⟨xs, h, q⟩ | ⟨kvs, h, q⟩
    · exact .inr (.inl ⟨_, xs, rfl, h, q⟩)
    · exact .inr (.inr ⟨_, kvs, rfl, h, q⟩)
  · exact q.elim

/-! ### the same, the written part named -/
theorem addK (K : PySem.W.Frag) (h : X.K = K := by rfl) : OpR X (binaryOp .Add) (addM K) := h ▸ op_addM
theorem eqK (K : PySem.W.Frag) (hu : X.A.units + 64 < cLine) (h : X.K = K := by rfl) : OpR X (compareOp .Eq) (eqM K) := h ▸ op_eqM hu
theorem neK (K : PySem.W.Frag) (hu : X.A.units + 64 < cLine) (h : X.K = K := by rfl) : OpR X (compareOp .NotEq) (neM K) := h ▸ op_neM hu
theorem inK (K : PySem.W.Frag) (h : X.K = K := by rfl) : OpR X (compareOp .In) (inM K false) := h ▸ op_inM
theorem notInK (K : PySem.W.Frag) (h : X.K = K := by rfl) : OpR X (compareOp .NotIn) (inM K true) := h ▸ op_notInM
theorem pt_t (K : PySem.W.Frag) (ha : PE X a ta) (he : ∀ whole, isTrue a X.env whole = (do let v ← whole; standAt a.pos; holding [v] (truthy v)) := by intro _; rfl) (h : X.K = K := by rfl) : PT X a (tTr K ta) := h ▸ pt_tr ha he
theorem e_x (K : PySem.W.Frag) (ha : PE X a ta) (hb : PE X b tb) (hs : PlainIx b := by intro _ _; rfl) (h : X.K = K := by rfl) : PE X (.Subscript a b pos) (tOp (ixM K) ta tb) := h ▸ e_ix ha hb hs
theorem slK (K : PySem.W.Frag) (h : X.K = K := by rfl) : SlR X (slM K) := h ▸ sl_M
theorem lenK (K : PySem.W.Frag) (h : X.K = K := by rfl) : CallR X (.builtin "len") (lenM K) := h ▸ call_lenM
theorem listK (K : PySem.W.Frag) (h : X.K = K := by rfl) : CallR X (.type "list") (fun xs H Q => ∃ p ys, xs = [.ref p] ∧ (SqL K H p ys ∨ SqT K H p ys) ∧ ∀ l, H l = none → Q (.ref l) (upd H l (.lst ys))) := h ▸ call_list_of
theorem tupleK (K : PySem.W.Frag) (h : X.K = K := by rfl) : CallR X (.type "tuple") (fun xs H Q => ∃ p ys, xs = [.ref p] ∧ ((SqL K H p ys ∧ ∀ l, H l = none → Q (.ref l) (upd H l (.tup ys))) ∨ (SqT K H p ys ∧ Q (.ref p) H))) := h ▸ call_tuple_of
theorem isiK (K : PySem.W.Frag) (h : X.K = K := by rfl) : CallR X (.builtin "isinstance") (rIsi K) := h ▸ call_isi
theorem allK (K : PySem.W.Frag) (hc : X.calm = true) (h : X.K = K := by rfl) : CallR X (.builtin "all") (rAll K) := h ▸ cr_all hc
theorem anyK (K : PySem.W.Frag) (hc : X.calm = true) (h : X.K = K := by rfl) : CallR X (.builtin "any") (rAny K) := h ▸ cr_any hc
theorem sortedK (K : PySem.W.Frag) (h : X.K = K := by rfl) : CallR X (.builtin "sorted") (rSorted K) := h ▸ cr_sorted
theorem sumK (K : PySem.W.Frag) (hc : X.calm = true) (h : X.K = K := by rfl) : CallR X (.builtin "sum") (rSum K) := h ▸ cr_sum hc

/-! ### calls of own defs -/
structure Cal (P : Program) (w : World) (K : PySem.W.Frag) (mg : Str → Option Value) (base : Heap) (CX : CXT) (k : Nat) (x : Str) (f : Addr) (fd : FuncData) (ps : List Str) (sp : Sp) : Prop where
  G : FnOk P w K mg base CX k f fd ps sp
  b : Binds K fd ps []
  kp : PySem.W.keepIn K (.ref f) = true
  m : mg x = some (.ref f)
end
end El

set_option Elab.async false
set_option linter.all false
set_option maxRecDepth 100000
set_option maxHeartbeats 4000000
/-! Own words: an own exception's first row super().__init__(e), the rest of its __init__ by the layer. -/
namespace El
open PySem PySem.Spec PyProof.Rows L2 NdefX
abbrev supRow (p0 p1 p2 p3 p4 : Pos) (e1 : Expr) : Stmt := .Expr (.Call (.Attribute (.Call (.Name "super" p0) [] [] p1) "__init__" p2) [e1] [] p3) p4
abbrev supNF (name qual : Str) (params : Arguments) (body : List Stmt) (scope : Scope) (cc cda : Addr) : NF := ⟨name, qual, params, body, scope, [("__class__", cc)], cda⟩

theorem inv_unpin {X : Cx} {pins : List (Addr × Obj)} {σ : L2.St} {H : Hp} {s : Shared} (I : Inv X pins σ H s) : Inv X [] σ H s := I.pins_of fun p hp => absurd hp (by simp)

theorem fn_super {P : Program} {w : World} {K : PySem.W.Frag} {mg : Str → Option Value} {base : Heap} {CX : CXT} {k : Nat} {f cc cda D : Addr} {name qual : Str} {params : Arguments} {scope : Scope} {doc pm ct oc ccl cl : Value} {od cdd cld : Option Addr} {osl ccs csl : Array (Option Value)} {vs0 : Array Value} {file : Str} {tf : Tok} {cdD : ClassData}
    {N ps : List Str} {sp : Sp} {e1 : Expr} {rest : List Stmt} {p0 p1 p2 p3 p4 : Pos} {ar : Arg}
    (lk : K.lookup f = some ⟨oc, od, .func (PySem.W.fnX name qual params (supRow p0 p1 p2 p3 p4 e1 :: rest) scope [("__class__", cc)] .none .none doc pm none (.ref cda) ct), osl⟩)
    (hcd : PySem.W.codeIn K (.ref cda) qual = true) (S : NScope N ps ["__class__"] scope)
    (hcode : K.lookup cda = some ⟨ccl, cdd, .fields vs0, ccs⟩) (hvs : vs0[2]? = some (.str file tf)) (hfile : ((P.main.file : Str) == file) = true)
    (hcell : K.lookup cc = some ⟨cl, cld, .cell (some (.ref D)), csl⟩) (hD : PySem.W.clsIn K D = some cdD) (hsuper : mg "super" = none)
    (hop : PySem.W.nsIn K PySem.cStatics "thirdparty.any" = some none)
    (hp : (params.posonlyargs ++ params.args).head? = some ar) (hps : ps[0]? = some ar.arg)
    (hks : scope.names.lookup ("super" : Str) = some .globalImplicit) (htop : (P.main.scope.names.lookup ("super" : Str)).isSome = false)
    (hboot : bootBuiltins "super" = some (.type "super"))
    (len : ∀ vs H Q E, sp vs H Q E → vs.length = ps.length)
    (hbody : ∀ (A : Around) (outer : List Env) (s : Shared) (H : Hp) (vs : List V) (Q : VK) (E : XK), Room k (A.deeper (envF (supNF name qual params (supRow p0 p1 p2 p3 p4 e1 :: rest) scope cc cda) f s.heap.objs.size)) → sp vs H Q E →
      ∃ (a C : Addr) (ta : TA) (t : TS), vs[0]? = some (.ref a) ∧ H a = some (exo a C none) ∧ OexC K C ∧ PySem.W.mroIn K C (.ref D) = some true ∧ PySem.W.ks_superIn K C D "__init__" = some (some (.builtin "ValueError.__init__")) ∧ PySem.W.subIn K (.ref C) (.type "ValueError") = some true ∧
        PA (ncx CX P w K mg base N (supNF name qual params (supRow p0 p1 p2 p3 p4 e1 :: rest) scope cc cda) f A outer s H E) [e1] ta ∧
        PSs (ncx CX P w K mg base N (supNF name qual params (supRow p0 p1 p2 p3 p4 e1 :: rest) scope cc cda) f A outer s H E) rest t ∧
        ta (startF N vs [none]) H fun ws H1 => H1 a = some (exo a C none) ∧ ws.length ≤ 1000 ∧ t { nx := fun _ H' => Q .non H', rt := Q } (startF N vs [none]) H1)
    (hst : ∀ env : Env, starEach [e1] env = (false, eval e1 env) :: starEach [] env) {pl : Env → Sem Bool}
    (he : ∀ env : Env, eval (.Call (.Attribute (.Call (.Name "super" p0) [] [] p1) "__init__" p2) [e1] [] p3) env = (do
      let ov ← attributeBase (.Call (.Name "super" p0) [] [] p1) "__init__" env (eval (.Call (.Name "super" p0) [] [] p1) env)
      standAt p2.atName
      let (f, first) ← holding [ov] (getMethod ov "__init__" (pl env))
      callWith p3 f first (backTo p3 (starEach [e1] env)) []))
    (hsw : ∀ env : Env, swapsWith (.Call (.Attribute (.Call (.Name "super" p0) [] [] p1) "__init__" p2) [e1] [] p3) none p4.line env = pure false) :
    FnOk P w K mg base CX (k + 1) f (PySem.W.fnX name qual params (supRow p0 p1 p2 p3 p4 e1 :: rest) scope [("__class__", cc)] .none .none doc pm none (.ref cda) ct) ps sp := by
  refine ⟨len, fun A outer s H args us vs Q E hr e0 hb r hsp => ?_⟩
  have hl := len _ _ _ _ hsp
  have KX : K.In s.heap := e0.mod.kin.keeps fun b o e => (e0.bs b o e).1
  have lim : s.heap.NoLimit := e0.mod.nolimit.keeps fun b o e => (e0.bs b o e).1
  have hkc : scope.names.lookup ("__class__" : Str) = some .free := S.frk _ (List.mem_singleton.mpr rfl)
  refine PySem.ks_codeAny_call_defAt (fd := PySem.W.fnX name qual params (supRow p0 p1 p2 p3 p4 e1 :: rest) scope [("__class__", cc)] .none .none doc pm none (.ref cda) ct) (body := supRow p0 p1 p2 p3 p4 e1 :: rest) (binds := ps.zip us) hr.depth (KX _ _ lk) rfl lim
    (PySem.W.codeRec_of KX hcd) rfl hb S.nocell (fun ⟨n, _⟩ hy => S.par n (List.of_mem_zip hy).1) (fun h₁ hns kp => ?_) S.co S.gen S.kind
  obtain ⟨a, C, ta, t, hv0, hexo, TC, hmro, hsup, hsubV, hPA, hPS, hq⟩ := hbody A outer s H vs Q E (hr.deeper _) hsp
  have bcc : base.get? cc = some ⟨cl, cld, .cell (some (.ref D)), csl⟩ := e0.mod.kin _ _ hcell
  have CC : CellsAt [(("__class__" : Str), cc)] ["__class__"] [none] s.heap H := by
    refine ⟨rfl, fun y c e => ?_, fun x y c e1 e2 => ?_, fun i y hi => ?_⟩
    · have : c = cc := by
        simp only [List.lookup] at e
        split at e
        · exact (Option.some.inj e).symm
        · cases e
      subst this
      exact ⟨(e0.bs _ _ bcc).2, _, _, KX _ _ hcell, rfl⟩
    · simp only [List.lookup] at e1 e2
      split at e1
      · rename_i h1
        split at e2
        · rename_i h2
          rw [beq_iff_eq] at h1 h2
          rw [h1, h2]
        · cases e2
      · cases e1
    · have : i = 0 ∧ y = "__class__" := by
        cases i with
        | zero => simp at hi; exact ⟨rfl, hi.symm⟩
        | succ i => simp at hi
      obtain ⟨rfl, rfl⟩ := this
      exact ⟨cc, by simp [List.lookup], fun v hv => by simp at hv⟩
  have I : Inv (ncx CX P w K mg base N (supNF name qual params (supRow p0 p1 p2 p3 p4 e1 :: rest) scope cc cda) f A outer s H E) [] (startF N vs [none]) H { s with heap := h₁, toks := s.toks + (ps.zip us).length } :=
    inv_startN (F := supNF name qual params (supRow p0 p1 p2 p3 p4 e1 :: rest) scope cc cda) S hr.hd e0 hl r CC hns kp
  have KX1 : K.In h₁ := fun b o e => kp b o (KX b o e)
  obtain ⟨oD, hD1, hD2⟩ : ∃ oD, h₁.get? D = some oD ∧ oD.data = .cls cdD := by
    unfold PySem.W.clsIn at hD
    split at hD
    · rename_i c d cd' sl ho
      cases hD
      exact ⟨_, KX1 _ _ ho, rfl⟩
    · cases hD
  have ndP : ps.Nodup := by
    have q := S.nd.sublist (List.take_sublist (ps.length + 1) N)
    rw [show N.take (ps.length + 1) = ps ++ [("__class__" : Str)] from S.pre] at q
    exact (List.nodup_append.mp q).1
  obtain ⟨u0, hu0, ru0⟩ := r.get hv0
  obtain rfl : u0 = Value.ref a := ru0
  obtain ⟨t1, hga⟩ := exo_at I.hok hexo
  have hint : interactive (envF (supNF name qual params (supRow p0 p1 p2 p3 p4 e1 :: rest) scope cc cda) f s.heap.objs.size) = false := by
    have hk := S.kind
    unfold interactive
    simp [Env.blockKind, hk]
  refine PySem.ks_wpAt_execs_cons (PySem.ks_wpAt_Expr_any (PySem.ks_wpAt_MethodCall (PySem.ks_wpAt_super_base (ar := ar) hks hkc (by decide +kernel) rfl (KX1 _ _ lk) rfl hp rfl (KX1 _ _ hcode) rfl hvs hfile htop ?_) (he _)) hint (hsw _))
  obtain ⟨mb, hb1, hb2⟩ := e0.mod.blt
  have kb : ∀ b o, base.get? b = some o → h₁.get? b = some o := fun b o e => kp b o (e0.bs b o e).1
  refine PySem.W.ks_loadName_global S.kind hks (Calls.loadGlobal_builtin (e0.mod.glob.keeps kb) hsuper (hb1.keeps kb) ((hb2 _ (by decide)).trans hboot) ⟨rfl, ?_⟩)
  refine wpAny_loadName_free S.kind hkc rfl ⟨_, KX1 _ _ hcell, rfl⟩ ?_
  refine wpAny_loadName_local S.kind (S.par _ (List.mem_of_getElem? hps)) hns (zip_look ndP hps hu0) ?_
  refine PySem.ks_wpAny_isType_cls hD1 hD2 ⟨rfl, ?_⟩
  refine PySem.ks_wpAny_call_super hD1 hD2 hga rfl (fun c e => by cases e) (PySem.W.looks_mroIn KX1 hmro) (fun h2 eso k2 => ?_)
  have I2 : Inv (ncx CX P w K mg base N (supNF name qual params (supRow p0 p1 p2 p3 p4 e1 :: rest) scope cc cda) f A outer s H E) [] (startF N vs [none]) H { s with heap := h2, toks := s.toks + (ps.zip us).length } := I.kept k2
  have KX2 : K.In h2 := fun b o e => k2 b o (KX1 b o e)
  cases hcC : PySem.W.clsIn K C with
  | none => unfold PySem.W.ks_superIn at hsup; rw [hcC] at hsup; cases hsup
  | some cd =>
  unfold PySem.W.ks_superIn at hsup
  rw [hcC] at hsup
  have hga2 := k2 _ _ hga
  have INS : PySem.W.InstAt h2 a { cls := .ref C, dict := none, data := .fields #[.ref t1, .none, .none, .none, .bool false, .none] } C none := ⟨hga2, rfl, rfl, trivial⟩
  have hI : PySem.W.Looks (model P w) h2 (isInstance (.ref a) (.type "ValueError")) true := INS.type.andThen (PySem.W.looks_subIn KX2 hsubV)
  refine PySem.W.kxs_getMethod PySem.W.kxs_ValueError eso (PySem.W.looks_opaque KX2 hop) (l₀ := cd.mro) (fun A Q E s k q => wpAny_bind ((PySem.W.looks_clsIn KX2 hcC) A _ E s k (wpAny_pure q))) rfl KX2 hsup hI (PySem.W.ks_ne KX2 INS hcC) (by decide +kernel) ?_
  have I3 : Inv (ncx CX P w K mg base N (supNF name qual params (supRow p0 p1 p2 p3 p4 e1 :: rest) scope cc cda) f A outer s H E) [] (startF N vs [none]) H { s with heap := h2.push (PySem.W.kxs_mw "ValueError.__init__" a), toks := s.toks + (ps.zip us).length + 1 } := I2.kept fun b o e => Heap.get?_push_of_some _ e
  have hu : (h2.push (PySem.W.kxs_mw "ValueError.__init__" a)).get? h2.objs.size = some (PySem.W.kxs_mw "ValueError.__init__" a) := Heap.get?_push_at rfl rfl
  have hfree : H h2.objs.size = none := I2.hok.fresh (Nat.le_refl _)
  have I4 : Inv (ncx CX P w K mg base N (supNF name qual params (supRow p0 p1 p2 p3 p4 e1 :: rest) scope cc cda) f A outer s H E) [(h2.objs.size, PySem.W.kxs_mw "ValueError.__init__" a)] (startF N vs [none]) H { s with heap := h2.push (PySem.W.kxs_mw "ValueError.__init__" a), toks := s.toks + (ps.zip us).length + 1 } :=
    I3.pins_of fun p hp => by
      obtain rfl := List.mem_singleton.mp hp
      exact ⟨hu, hfree, fun z => absurd I2.lt (by rw [← z]; exact Nat.lt_irrefl _), I2.nofs (Nat.le_refl _), fun v z => by cases z⟩
  show wpAny _ _ (callWith p3 (.ref h2.objs.size) [] (backTo p3 (starEach [e1] _)) []) _ _ _
  rw [hst]
  refine PySem.W.kxs_callWith (i := "ValueError.__init__") (x := a) rfl (Calls.evalArgs_plain ?_)
  have hrun := hPA.run p3 _ _ _ _ _ I4 hq
  rw [hst] at hrun
  refine thn hrun fun us' s4 ⟨ws, H1, I5, r5, hexo1, hws, hq1⟩ => ?_
  have hu5 : s4.heap.get? h2.objs.size = some (PySem.W.kxs_mw "ValueError.__init__" a) := (I5.pin (h2.objs.size, PySem.W.kxs_mw "ValueError.__init__" a) (List.mem_append_right _ (List.mem_singleton.mpr rfl))).1
  refine ⟨hu5, ?_⟩
  obtain ⟨nm, q9, N9, bs, bm, sn, sub, ab, col, dd, k0, k1, k2', k3, k5, hC, hbm⟩ := TC.cls
  obtain ⟨t2, hga5⟩ := exo_at I5.hok hexo1
  have hC5 := I5.kIn _ _ hC
  have hus : us'.length ≤ sizeLine := by
    rw [← Paired.length r5, sizeLine_eq]
    omega
  obtain ⟨h5, g5, d5, tk5, os5⟩ := s4
  show wpAny _ _ (call (.ref h2.objs.size) ([] ++ us')) _ _ _
  rw [List.nil_append]
  refine wpAny_call (codeAny_of_tree ?_)
  show wpAny _ _ (callAny (.ref h2.objs.size) ⟨us', []⟩) _ _ _
  simp only [callAny]
  refine wpAny_bind (wpAny_load hu5 ?_)
  simp only [PySem.W.kxs_mw, show (Value.type "method-wrapper" == Value.type "method" || Value.type "method-wrapper" == Value.type "builtin_function_or_method" || Value.type "method-wrapper" == Value.type "method-wrapper") = true by decide, if_true]
  refine PySem.W.KFB.if_so (by decide) ?_
  refine wpAny_bind (PySem.W.check_bound_init PySem.F.excBase_ValueError.toExcCallFacts hC5 hga5 rfl ?_)
  refine wpAny_bind (wpAny_pure (wpAny_pure ?_))
  refine ⟨plainId_quiet PySem.F.excBase_ValueError.init.plain _, codeAny_builtin PySem.F.excBase_ValueError.initEntry ?_⟩
  refine PySem.W.exc_init_tree (cls := .ref C) (t0 := t2) (dv := none) (c2 := .none) (c3 := .none) (b4 := .bool false) hga5 hus (fun h6 k6 e6 _ => ?_)
  have J := I5.write (t' := tk5) (x := a) (e := a) (o := exo a C none) (by rw [hexo1]; exact True.intro) (.inl rfl) k6 ⟨_, e6⟩ (exo_ok e6)
  have eu : upd H1 a (exo a C none) = H1 := by
    funext b
    by_cases hb : b = a
    · rw [hb, upd_same, hexo1]
    · rw [upd_ne hb]
  rw [eu] at J
  have J0 := inv_unpin J
  refine wpAt_of_wpAny ?_
  refine wpAny_mono (hPS.run [] _ _ H1 _ J0 hq1) (fun fl s' hs => ?_) fun e s' hs => hs
  have fin : ∀ {σ' : L2.St} {H' : Hp} {v : V} {u : Value}, Inv (ncx CX P w K mg base N (supNF name qual params (supRow p0 p1 p2 p3 p4 e1 :: rest) scope cc cda) f A outer s H E) [] σ' H' s' → L2.RelV v u → Q v H' → CE outer P w H s Q u s' :=
    fun {σ' H' v u} J rv q => ⟨v, H', J.os, J.bare, J.base, J.hok, rv, q⟩
  cases fl with
  | ret u =>
    obtain ⟨v, σ', H', J, rv, q⟩ := hs
    exact fin J rv q
  | next =>
    obtain ⟨σ', H', J, q⟩ := hs
    exact fin (v := V.non) (u := Value.none) J rfl q
  | brk =>
    obtain ⟨_, _, _, q⟩ := hs
    exact False.elim q
  | cont =>
    obtain ⟨_, _, _, q⟩ := hs
    exact False.elim q
end El

set_option Elab.async false
set_option linter.all false
set_option maxRecDepth 100000
set_option maxHeartbeats 4000000
/-! Own words: what the written part says of an own exception class, isinstance of what an except clause holds. -/
namespace El
open PySem PySem.Spec PyProof.Rows L2 NdefX
/-- isinstance(e, c), e the exception that the suite holds, with a dict -/
def rIsX (K : PySem.W.Frag) (cls : Value) (d : Option Addr) (a : Addr) : List V → Hp → VK → Prop := fun xs H Q => ∃ (D dd : Addr) (fs : List (Str × V)) (c : V) (cv : Value) (b : Bool), xs = [.ref a, c] ∧ cls = .ref D ∧ d = some dd ∧ H dd = some (.xd fs) ∧ ExcC K D ∧ (∀ u, RelV c u → u = cv) ∧ PySem.W.kitOne K (.ref D) cv = some b ∧ Q (.bl b) H
theorem call_isX {X : Cx} {a : Addr} {oe : Obj} {cls : Value} {d : Option Addr} {pn : List (Addr × Obj)} (hz : Zc cls d oe) (hf : ∃ vs, oe.data = .fields vs) : CallR (X.suite a ((a, oe) :: pn)) (.builtin "isinstance") (rIsX X.K cls d a) := by
  intro pins s σ H xs us Q I r h
  obtain ⟨D, dd, fs, c, cv, b, rfl, rfl, rfl, ea, C, hcv, e, q⟩ := h
  cases r with
  | cons rx rr =>
    cases rr with
    | cons rt rr =>
      cases rr
      cases rx
      have ec := hcv _ rt
      subst ec
      obtain ⟨hget, _⟩ := I.pin (a, oe) (List.mem_append.mpr (.inl List.mem_cons_self))
      obtain ⟨vs, hv⟩ := hf
      have hx : ObjOk X.prog X.w H s.heap dd (.xd fs) := I.hok dd _ ea
      obtain ⟨mA, hns, hr⟩ := hx
      obtain ⟨od, ho, hl⟩ := lookIn_ns hns
      have J : PySem.W.InstAt s.heap a oe D (some od) := ⟨hget, hz.1, by unfold PySem.W.notCls; rw [hv] <;> rfl, by rw [hz.2]; exact ho⟩
      obtain ⟨cdD, hcD, _⟩ := PySem.W.any_some C.hd
      exact PySem.W.kia_one (PySem.W.kitx_exc (by rw [hcD]; rfl) C.hg C.hk C.hs C.ha C.hn C.ht C.hm) I.kIn J e (fun z => nomatch z) fun tk => ⟨.bl b, H, I.kept (t' := tk) fun _ _ z => z, rfl, q⟩
/-- an own exception class with its own __init__ -/
structure ExK (K : PySem.W.Frag) (C fI : Addr) (fields : List Str) : Prop where
  oex : OexC K C
  sup : PySem.W.ks_superIn K C C "__init__" = some (some (.builtin "ValueError.__init__"))
  subV : PySem.W.subIn K (.ref C) (.type "ValueError") = some true
  mro : PySem.W.mroIn K C (.ref C) = some true
  iC : PySem.W.findIn K (.ref C) "__init__" = some (some (.ref fI))
  tI : PySem.W.typeIn K (.ref fI) = some (.type "function")
  no : ∀ f ∈ fields, PySem.W.findIn K (.ref C) f = some none
  xf : XfC K C
  is : ExcC K C
/-- what a suite that catches it must know -/
structure ExV (K : PySem.W.Frag) (C : Addr) (fields : List Str) : Prop where
  no : ∀ f ∈ fields, PySem.W.findIn K (.ref C) f = some none
  xf : XfC K C
  is : ExcC K C
/-- the i-th def of the class body -/
def mthS (s : Stmt) (i : Nat) : Stmt := match s with
  | .ClassDef _ _ _ b _ _ _ _ _ _ _ => b.getD i (.Pass ⟨0, 0, 0, 0⟩)
  | _ => .Pass ⟨0, 0, 0, 0⟩
/-- the same, from what the written part answers -/
theorem exk_mk {K : PySem.W.Frag} {C fI N : Addr} {fields : List Str} {nm q : Str} {bs bm : List Value} {sn : List Str} {sub : List Value} {ab : Bool} {col : Option Bool} {dd : Option Addr} {k0 k1 k2 k3 k5 : Option Value}
    (cls : K.lookup C = some (excClassObj nm q C N bs bm true sn sub ab col dd k0 k1 k2 k3 k5 "ValueError.__new__")) (ref : PySem.HandSPX.refsVE bm = true)
    (sa : PySem.W.findIn K (.ref C) "__setattr__" = some (some (.builtin "object.__setattr__"))) (exC : PySem.W.subIn K (.ref C) (.type "BaseException") = some true) (tyC : PySem.W.typeIn K (.ref C) = some (.type "type")) (kC : PySem.W.keepIn K (.ref C) = true)
    (sup : PySem.W.ks_superIn K C C "__init__" = some (some (.builtin "ValueError.__init__"))) (subV : PySem.W.subIn K (.ref C) (.type "ValueError") = some true) (mro : PySem.W.mroIn K C (.ref C) = some true)
    (iC : PySem.W.findIn K (.ref C) "__init__" = some (some (.ref fI))) (tI : PySem.W.typeIn K (.ref fI) = some (.type "function")) (no : ∀ f ∈ fields, PySem.W.findIn K (.ref C) f = some none)
    (ga : PySem.W.findIn K (.ref C) "__getattribute__" = some (some (.builtin "BaseException.__getattribute__"))) (gg : PySem.W.findIn K (.ref C) "__getattr__" = some none) (hd : PySem.W.hasDictIn K C = true)
    (hcl : PySem.W.findIn K (.ref C) "__class__" = some (some (.builtin "object.__class__"))) (hn : PySem.W.specialIn K (.builtin "object.__class__") "__get__" = some (some (.builtin "getset_descriptor.__get__"))) (ht : PySem.W.takesIn K (.builtin "object.__class__") = some true) (hm : PySem.W.mroIn K C (.type "object") = some true) : ExK K C fI fields :=
  ⟨⟨⟨nm, q, N, bs, bm, sn, sub, ab, col, dd, k0, k1, k2, k3, k5, cls, ref⟩, sa, exC, tyC, kC⟩, sup, subV, mro, iC, tI, no, ⟨ga, gg, exC, hd⟩, ⟨ga, gg, exC, hd, hcl, hn, ht, hm⟩⟩

/-! ### an own exception's __init__, by what it keeps -/
def spE (C : Addr) (ok : List V → Prop) (fs : List V → List (Str × V)) : Sp := fun vs H Q _ => ∃ (a : Addr) (ws : List V), vs = .ref a :: ws ∧ ok ws ∧ H a = some (exo a C none) ∧
  ∀ (dx : Addr) (H' : Hp), H dx = none → dx ≠ a → H' a = some (exo a C (some dx)) → H' dx = some (exd dx (fs ws)) → (∀ b, b ≠ a → b ≠ dx → H' b = H b) → Q .non H'
theorem mk_spE {C : Addr} {ok : List V → Prop} {fs : List V → List (Str × V)} {vs : List V} {H1 : Hp} {Q : XK} (hl : vs.length ≤ 1000) (ho : ok vs) (hq : ∀ d, H1 d = none → Q (.ref C) (some d) (upd H1 d (.xd (fs vs)))) :
    vs.length ≤ 1000 ∧ ∀ a, H1 a = none → spE C ok fs (.ref a :: (vs ++ [])) (upd H1 a (exo a C none))
      (fun v H2 => v = .non ∧ ∃ (d : Addr) (fs : List (Str × V)), H2 a = some (exo a C (some d)) ∧ H2 d = some (exd d fs) ∧ H1 d = none ∧ Q (.ref C) (some d) (upd (del H2 a) d (.xd fs))) (fun _ _ _ => False) := by
  refine ⟨hl, fun a na => ⟨a, vs, by rw [List.append_nil], ho, upd_same, fun dx H' n ne e1 e2 hh => ⟨rfl, dx, fs vs, e1, e2, ?_, ?_⟩⟩⟩
  · rw [upd_ne ne] at n
    exact n
  · have nd : H1 dx = none := by rw [upd_ne ne] at n; exact n
    have e : upd (del H' a) dx (.xd (fs vs)) = upd H1 dx (.xd (fs vs)) := by
      funext b
      by_cases hb : b = dx
      · rw [hb, upd_same, upd_same]
      · rw [upd_ne hb, upd_ne hb]
        by_cases ha : b = a
        · rw [ha, del_same, na]
        · rw [del_ne ha, hh b ha hb, upd_ne ha]
    rw [e]
    exact hq dx nd
/-- the class, its __init__, ready for a raise -/
structure CalE (P : Program) (w : World) (K : PySem.W.Frag) (mg : Str → Option Value) (base : Heap) (k : Nat) (x : Str) (C f : Addr) (fd : FuncData) (ps : List Str) (ok : List V → Prop) (fs : List V → List (Str × V)) (fields : List Str) : Prop where
  G : FnOk P w K mg base CX0 k f fd ps (spE C ok fs)
  b : Binds K fd ps []
  X : ExK K C f fields
  m : mg x = some (.ref C)
/-- one store, the dict being new -/
theorem ost1 {a C : Addr} {H : Hp} {f : Str} {y : V} {Q : Hp → Prop} (ea : H a = some (exo a C none)) (q : ∀ dx H', H dx = none → dx ≠ a → H' a = some (exo a C (some dx)) → H' dx = some (exd dx [(f, y)]) → (∀ b, b ≠ a → b ≠ dx → H' b = H b) → Q H') :
    ∀ dx, H dx = none → dx ≠ a → Q (upd (upd H dx (exd dx [(f, y)])) a (exo a C (some dx))) := fun dx n ne =>
  q dx _ n ne upd_same (by rw [upd_ne ne, upd_same]) fun b h1 h2 => by rw [upd_ne h1, upd_ne h2]
end El

set_option Elab.async false
set_option linter.all false
set_option maxRecDepth 100000
/-! Own words: a text times an int, the text of an int. -/
namespace El
open PySem PySem.Spec PyProof.Rows L2
def repS (z : Str) (k : Int) : Str := if k < 1 then Str.empty else if (k == 1 || z.length == 0) = true then z else ⟨(List.replicate k.toNat z.cps).foldl (· ++ ·) #[]⟩
theorem foldl_cps : ∀ (n : Nat) (a b : Array Nat), ((List.replicate n b).foldl (· ++ ·) a).toList = a.toList ++ (List.replicate n b.toList).flatten
  | 0, a, b => by simp
  | n + 1, a, b => by
    rw [List.replicate_succ, List.foldl_cons, foldl_cps n, Array.toList_append, List.replicate_succ, List.flatten_cons, List.append_assoc]
theorem repS_cps (z : Str) (k : Int) : (repS z k).cps.toList = (List.replicate k.toNat z.cps.toList).flatten := by
  unfold repS
  split
  · rename_i h
    rw [show k.toNat = 0 by omega]
    rfl
  · split
    · rename_i h1 h
      rw [Bool.or_eq_true, beq_iff_eq, beq_iff_eq] at h
      rcases h with h | h
      · subst h
        simp
      · have : z.cps.toList = [] := List.eq_nil_of_length_eq_zero (by rw [Array.length_toList]; exact h)
        rw [this]
        simp
    · rw [foldl_cps]
      rfl
theorem repS1 {c : Nat} {k : Int} : (repS ⟨#[c]⟩ k).cps.toList = List.replicate k.toNat c := by
  rw [repS_cps]
  simp
theorem op_mulS {X : Cx} : OpR X (binaryOp .Mult) (fun x y H Q => ∃ (z : Str) (k : Int), x = .str z ∧ y = .int k ∧ k ≤ 1000 ∧ -1000 ≤ k ∧ z.length ≤ 1000 ∧ Q (.str (repS z k)) H) := by
  intro pins s σ H x y v u Q I rx ry h
  obtain ⟨z, k, rfl, rfl, h1, h2, h3, q⟩ := h
  obtain ⟨t, rfl⟩ := rx
  obtain ⟨t', rfl⟩ := ry
  have e : (2 : Int) ^ 63 = 9223372036854775808 := by decide
  refine PySem.P.mul_str ?_ (fun n1 n2 => ?_) (fun n1 n2 => ?_) ?_
  · rw [e, decide_eq_false (by omega), decide_eq_false (by omega)]
    rfl
  · rw [e]
    have : ((9223372036854775808 : Int) - 1) / 1000 ≤ (9223372036854775808 - 1) / k := by
      refine Int.le_ediv_of_mul_le (by omega) ?_
      have : (9223372036854775808 - 1) / 1000 * k ≤ (9223372036854775808 - 1) / 1000 * 1000 := Int.mul_le_mul_of_nonneg_left h1 (by decide)
      refine Int.le_trans this (by decide)
    have : (1000 : Int) ≤ (9223372036854775808 - 1) / 1000 := by decide
    omega
  · have : z.length * k.toNat ≤ 1000 * 1000 := Nat.mul_le_mul h3 (by omega)
    show decide _ = false
    refine decide_eq_false ?_
    rw [sizeLine_eq]
    omega
  · unfold repS at q
    split
    · rename_i c
      rw [if_pos c] at q
      exact ⟨by decide, .str _, H, I.tok _, ⟨_, rfl⟩, q⟩
    · rename_i c
      rw [if_neg c] at q
      split
      · rename_i c2
        rw [if_pos c2] at q
        exact ⟨.str _, H, I, ⟨_, rfl⟩, q⟩
      · rename_i c2
        rw [if_neg c2] at q
        refine ⟨?_, .str _, H, I.tok _, ⟨_, rfl⟩, q⟩
        have e2 := foldl_cps k.toNat #[] z.cps
        have e3 : ((List.replicate k.toNat z.cps).foldl (· ++ ·) #[]).size = k.toNat * z.length := by
          rw [← Array.length_toList, e2, List.length_append]
          simp
          rfl
        show ((List.replicate k.toNat z.cps).foldl (· ++ ·) #[]).size ≤ sizeLine
        rw [e3, sizeLine_eq]
        have : k.toNat * z.length ≤ 1000 * 1000 := Nat.mul_le_mul (by omega) h3
        omega
/-- times, of texts too -/
def mulSM : R2 := fun x y H Q => match x, y with
  | .str z, .int k => k ≤ 1000 ∧ -1000 ≤ k ∧ z.length ≤ 1000 ∧ Q (.str (repS z k)) H
  | _, _ => mulM x y H Q
theorem op_mulSM {X : Cx} : OpR X (binaryOp .Mult) mulSM := opwk (OpR.or op_mulS op_mulM) fun x y H Q q => by
  unfold mulSM at q
  split at q
  · exact .inl ⟨_, _, rfl, rfl, q⟩
  · exact .inr q
/-- the signs of a number's text -/
theorem int_digits {i : Int} (h : 0 ≤ i) : ∀ c ∈ ((toString i : String) : Str).cps.toList, 48 ≤ c ∧ c ≤ 57 := by
  intro c hm
  by_cases hk : c ≠ 45 ∧ (c < 48 ∨ 57 < c)
  · exact absurd hm (int_text_free' c hk i)
  · by_cases h45 : c = 45
    · exfalso
      subst h45
      obtain ⟨n, rfl⟩ := Int.eq_ofNat_of_zero_le h
      rw [signs_ofString] at hm
      obtain ⟨ch, hc, e⟩ := List.mem_map.mp hm
      have hd : ch.isDigit = true := by
        have : ch ∈ (Nat.repr n).toList := hc
        exact Nat.isDigit_of_mem_toDigits (b := 10) (n := n) (by decide) (by decide) (by simpa [Nat.repr] using this)
      have := digit_range hd
      omega
    · omega
theorem int_text_ne (i : Int) : ((toString i : String) : Str).cps.toList ≠ [] := by
  rw [signs_ofString]
  intro h
  have h := List.map_eq_nil_iff.mp h
  have nn : ∀ n : Nat, (Nat.repr n).toList ≠ [] := fun n e => by
    have : Nat.toDigits 10 n = [] := by simpa [Nat.repr] using e
    exact Nat.toDigits_ne_nil this
  cases i with
  | ofNat n => exact nn n h
  | negSucc n =>
    have : ("-" ++ Nat.repr (n + 1)).toList = [] := h
    simp at this
end El

set_option Elab.async false
set_option linter.all false
set_option maxRecDepth 100000
set_option maxHeartbeats 4000000
/-! Own words: operators of own classes, static methods. -/
namespace El
open PySem PySem.Spec PyProof.Rows L2
theorem cmpBack_of {X : Cx} {pins : List (Addr × Obj)} {σ : L2.St} {Q : VK} {u : Value} {s' : Shared} (h : EP X pins σ Q u s') : PySem.W.CmpBack (EP X pins σ Q) u s' := by
  obtain ⟨v, H', I, r, q⟩ := id h
  cases v with
  | non => cases (show u = Value.none from r); exact h
  | bl b => cases (show u = Value.bool b from r); exact h
  | int i => obtain ⟨t, e⟩ := (show ∃ t, u = Value.int i t from r); subst e; exact h
  | str i => obtain ⟨t, e⟩ := (show ∃ t, u = Value.str i t from r); subst e; exact h
  | byt i => obtain ⟨t, e⟩ := (show ∃ t, u = Value.bytes i t from r); subst e; exact h
  | flt i => obtain ⟨t, e⟩ := (show ∃ t, u = Value.float i t from r); subst e; exact h
  | ref a => cases (show u = Value.ref a from r); exact h
  | ty n => cases (show u = Value.type n from r); exact h
/-- an own class's method for an operator -/
structure OpC (K : PySem.W.Frag) (C f : Addr) (op : Operator) : Prop where
  sf : PySem.W.selfFirst K C = true
  at_ : PySem.W.findIn K (.ref C) (PySem.dunder op.info.2) = some (some (.ref f))
  fn : PySem.W.isFn K (.ref f) = true
/-- .. with a value of the built-in type T on the right -/
structure OpT (K : PySem.W.Frag) (C f : Addr) (op : Operator) (T : String) : Prop where
  c : OpC K C f op
  hr : ∃ rc, PySem.W.findIn K (.ref C) (PySem.dunderR op.info.2) = some rc ∧ (rc = none ∨ ∃ g : Addr, rc = some (.ref g))
  h1 : ∃ fo, PySem.W.findIn K (.type T) (PySem.dunder op.info.2) = some fo
  h2 : ∃ ro, PySem.W.findIn K (.type T) (PySem.dunderR op.info.2) = some ro
  sub : PySem.W.subIn K (.type T) (.ref C) = some false
structure InvC (K : PySem.W.Frag) (C f : Addr) : Prop where
  at_ : PySem.W.findIn K (.ref C) "__invert__" = some (some (.ref f))
  fn : PySem.W.isFn K (.ref f) = true
section
variable {X : Cx} {CX : CXT} {k : Nat} {C f : Addr} {fd : FuncData} {ps : List Str} {sp : Sp} {E : XK} {op : Operator}
/-- a op b, both of the class at C -/
def rOwn (C : Addr) (sp : Sp) (E : XK) : R2 := fun x y H Q => ∃ a b dx fs dy gs, x = .ref a ∧ y = .ref b ∧ H a = some (.ins C dx fs) ∧ H b = some (.ins C dy gs) ∧ sp [.ref a, .ref b] H Q E
theorem op_own (c : OpC X.K C f op) (F : FnOk X.prog X.w X.K X.mg X.base CX k f fd ps sp) (hr : Room k X.A) (hb : Binds X.K fd ps []) (hx : Passes CX X E) : OpR X (binaryOp op) (rOwn C sp E) := by
  intro pins s σ H x y v u Q I rx ry h
  obtain ⟨a, b, dx, fs, dy, gs, rfl, rfl, ea, eb, q⟩ := h
  obtain rfl : v = Value.ref a := rx
  obtain rfl : u = Value.ref b := ry
  obtain ⟨m, fr⟩ := I.fr
  obtain ⟨mA, O, _⟩ := ins_get I.hok ea
  obtain ⟨od, J, _⟩ := O.look
  obtain ⟨mB, O2, _⟩ := ins_get I.hok eb
  obtain ⟨od2, J2, _⟩ := O2.look
  refine PySem.W.binop_K fr I.ok.mod.kin J J2.type c.sf c.at_ c.fn ?_
  refine wpAny_mono (run_fn (us := [.ref a, .ref b]) (vs := [.ref a, .ref b]) (ds := []) (dvs := []) F hr hb .nil hx I (.cons rfl (.cons rfl .nil)) q) (fun u' s' h' => cmpBack_of h') fun _ _ z => z
/-- a op n, n an int -/
def rOwnI (C : Addr) (sp : Sp) (E : XK) : R2 := fun x y H Q => ∃ a dx fs i, x = .ref a ∧ y = .int i ∧ H a = some (.ins C dx fs) ∧ sp [.ref a, .int i] H Q E
theorem op_ownI (c : OpT X.K C f op "int") (F : FnOk X.prog X.w X.K X.mg X.base CX k f fd ps sp) (hr : Room k X.A) (hb : Binds X.K fd ps []) (hx : Passes CX X E) : OpR X (binaryOp op) (rOwnI C sp E) := by
  intro pins s σ H x y v u Q I rx ry h
  obtain ⟨a, dx, fs, i, rfl, rfl, ea, q⟩ := h
  obtain rfl : v = Value.ref a := rx
  obtain ⟨t, rfl⟩ := ry
  obtain ⟨m, fr⟩ := I.fr
  obtain ⟨mA, O, _⟩ := ins_get I.hok ea
  obtain ⟨od, J, _⟩ := O.look
  obtain ⟨rc, hr1, hr2⟩ := c.hr
  obtain ⟨fo, h1⟩ := c.h1
  obtain ⟨ro, h2⟩ := c.h2
  refine PySem.W.ksp_binT fr I.ok.mod.kin J (T := "int") rfl c.c.sf c.c.at_ c.c.fn hr1 hr2 h1 h2 c.sub ?_
  refine wpAny_mono (run_fn (us := [.ref a, .int i t]) (vs := [.ref a, .int i]) (ds := []) (dvs := []) F hr hb .nil hx I (.cons rfl (.cons ⟨t, rfl⟩ .nil)) q) (fun u' s' h' => cmpBack_of h') fun _ _ z => z
/-- ~a -/
theorem un_own (c : InvC X.K C f) (F : FnOk X.prog X.w X.K X.mg X.base CX k f fd ps sp) (hr : Room k X.A) (hb : Binds X.K fd ps []) (hx : Passes CX X E) : UnR X (unaryOp .Invert) (fun x H Q => ∃ a dx fs, x = .ref a ∧ H a = some (.ins C dx fs) ∧ sp [.ref a] H Q E) := by
  intro pins s σ H x v Q I rx h
  obtain ⟨a, dx, fs, rfl, ea, q⟩ := h
  obtain rfl : v = Value.ref a := rx
  obtain ⟨m, fr⟩ := I.fr
  obtain ⟨mA, O, _⟩ := ins_get I.hok ea
  obtain ⟨od, J, _⟩ := O.look
  exact PySem.W.ksp_inv fr I.ok.mod.kin J c.at_ c.fn (run_fn (us := [.ref a]) (vs := [.ref a]) (ds := []) (dvs := []) F hr hb .nil hx I (.cons rfl .nil) q)
end

section
variable {X : Cx} {CX : CXT} {k : Nat} {C f : Addr} {fd : FuncData} {ps : List Str} {sp : Sp} {E : L2.St → XK} {op : Operator} {a b : Expr} {ta tb : TE} {pos : Pos}
/-- .. what it lets out being taken where it stands -/
def tOwnS (C : Addr) (sp : Sp) (E : L2.St → XK) (ta tb : TE) : TE := fun σ H Q => ta σ H fun x H1 => tb σ H1 fun y H2 => ∃ a b dx fs dy gs, x = .ref a ∧ y = .ref b ∧ H2 a = some (.ins C dx fs) ∧ H2 b = some (.ins C dy gs) ∧ sp [.ref a, .ref b] H2 Q (E σ)
theorem pe_bopS (c : OpC X.K C f op) (F : FnOk X.prog X.w X.K X.mg X.base CX k f fd ps sp) (hr : Room k X.A) (hb : Binds X.K fd ps []) (hx : ∀ σ, PassesAt CX X σ (E σ)) (ha : PE X a ta) (hb2 : PE X b tb) : PE X (.BinOp a op b pos) (tOwnS C sp E ta tb) := by
  refine ⟨fun pins s σ H Q I h => ?_⟩
  refine wpAny_BinOp (thn (ha.run pins s σ H _ I h) fun v s1 ⟨x, H1, I1, rx, q1⟩ => thn (hb2.run pins s1 σ H1 _ I1 q1) fun u s2 ⟨y, H2, I2, ry, a, b, dx, fs, dy, gs, ex, ey, ea, eb, q⟩ => ?_)
  subst ex ey
  obtain rfl : v = Value.ref a := rx
  obtain rfl : u = Value.ref b := ry
  obtain ⟨m, fr⟩ := I2.fr
  obtain ⟨mA, O, _⟩ := ins_get I2.hok ea
  obtain ⟨od, J, _⟩ := O.look
  obtain ⟨mB, O2, _⟩ := ins_get I2.hok eb
  obtain ⟨od2, J2, _⟩ := O2.look
  refine PySem.W.binop_K fr I2.ok.mod.kin J J2.type c.sf c.at_ c.fn ?_
  refine wpAny_mono (run_fnS (us := [.ref a, .ref b]) (vs := [.ref a, .ref b]) F hr hb (hx σ) I2 (.cons rfl (.cons rfl .nil)) q) (fun u' s' h' => cmpBack_of h') fun _ _ z => z
end

/-! ### static methods, by the class's name -/
structure SMet (K : PySem.W.Frag) (C : Addr) (mc : Value) (m : Str) (p g : Addr) : Prop where
  at_ : PySem.W.findCls K (.ref C) mc m = some (.get (.builtin "staticmethod.__get__") (.ref p) .none (.ref C))
  rc : ∃ rest, PySem.W.recIn K p "staticmethod" = some (.ref g :: rest)
  kp : PySem.W.keepIn K (.ref g) = true
section
variable {X : Cx} {CX : CXT} {k : Nat} {C p g : Addr} {mc : Value} {fd : FuncData} {ps : List Str} {sp : Sp} {E : XK} {o e : Expr} {es : List Expr} {m : Str} {pos apos : Pos} {ta : TE} {t : TA} {pl : Sem Bool}
def tSM (C : Addr) (sp : Sp) (E : XK) (ta : TE) (t : TA) : TE := fun σ H Q => ta σ H fun x H1 => x = .ref C ∧ t σ H1 fun vs H2 => sp vs H2 Q E
theorem getsm_ok {pins : List (Addr × Obj)} {σ : L2.St} {H : Hp} {s : Shared} {A : Around} {E : Value → Shared → Prop} {Q : Value × List Value → Shared → Prop} (I : Inv X pins σ H s) (r : ClX.CRead X.K C mc) (c : SMet X.K C mc m p g)
    (h : ∀ s', Inv X pins σ H s' → Q (.ref g, []) s') : wpAny (model X.prog X.w) A (getMethod (.ref C) m pl) Q E s := by
  obtain ⟨rest, hp⟩ := c.rc
  refine PySem.W.method_cls I.kIn r.ga ?_
  refine PySem.W.cls_bind I.kIn r.rd c.at_ ?_
  exact wpAny_call (PySem.W.sm_get (s := { s with toks := s.toks + 1 }) I.kIn hp (PySem.W.handed_on rfl (h _ (I.tok _))))
theorem pe_smeth (he : PE X o ta) (r : ClX.CRead X.K C mc) (c : SMet X.K C mc m p g) (F : FnOk X.prog X.w X.K X.mg X.base CX k g fd ps sp) (hr : Room k X.A) (hb : Binds X.K fd ps []) (hx : Passes CX X E) (ha : PA X (e :: es) t)
    (hst : starEach (e :: es) X.env = (false, eval e X.env) :: starEach es X.env := by rfl) (hpl : (backTo pos (starEach es X.env)).any (·.1) = false := by rfl)
    (ht : eval (.Call (.Attribute o m apos) (e :: es) [] pos) X.env = (do
      let ov ← eval o X.env
      standAt apos.atName
      let (f, first) ← holding [ov] (getMethod ov m pl)
      callWith pos f first (backTo pos (starEach (e :: es) X.env)) (backToKw pos (keywordEach [] X.env))) := by rfl) :
    PE X (.Call (.Attribute o m apos) (e :: es) [] pos) (tSM C sp E ta t) := by
  refine ⟨fun pins s σ H Q I h => ?_⟩
  refine PySem.W.methodCall_KW (pl := pl) (thn (he.run pins s σ H _ I h) fun u s1 ⟨x, H1, I1, rx, ex, q⟩ => ?_) ht
  subst ex
  obtain rfl : u = Value.ref C := rx
  refine getsm_ok I1 r c fun s2 I2 => ?_
  refine PySem.W.callWith_K (h₀ := X.base) I2.ok.mod.kin c.kp (thn (ha.run pos pins s2 σ H1 _ I2 q) fun us s3 ⟨vs, H2, I3, rv, q2⟩ => ⟨I3.kIn, ?_⟩) hst hpl
  have hl : sp (vs ++ []) H2 Q E := by rw [List.append_nil]; exact q2
  exact run_fn (ds := []) (dvs := []) F hr hb .nil hx I3 rv hl
theorem pe_smeth0 (he : PE X o ta) (r : ClX.CRead X.K C mc) (c : SMet X.K C mc m p g) (F : FnOk X.prog X.w X.K X.mg X.base CX k g fd ps sp) (hr : Room k X.A) (hb : Binds X.K fd ps []) (hx : Passes CX X E)
    (ht : eval (.Call (.Attribute o m apos) [] [] pos) X.env = (do
      let ov ← eval o X.env
      standAt apos.atName
      let (f, first) ← holding [ov] (getMethod ov m pl)
      callWith pos f first (backTo pos (starEach [] X.env)) (backToKw pos (keywordEach [] X.env))) := by rfl) :
    PE X (.Call (.Attribute o m apos) [] [] pos) (tSM C sp E ta tNil) := by
  refine ⟨fun pins s σ H Q I h => ?_⟩
  refine PySem.W.methodCall_KW (pl := pl) (thn (he.run pins s σ H _ I h) fun u s1 ⟨x, H1, I1, rx, ex, q⟩ => ?_) ht
  subst ex
  obtain rfl : u = Value.ref C := rx
  refine getsm_ok I1 r c fun s2 I2 => ?_
  exact PySem.W.callWith_K0 I2.kIn c.kp (run_fn (us := []) (vs := []) (ds := []) (dvs := []) F hr hb .nil hx I2 .nil q)
end

/-! ### defs of own classes, ready to be called -/
structure CalB (P : Program) (w : World) (K : PySem.W.Frag) (mg : Str → Option Value) (base : Heap) (CX : CXT) (k : Nat) (f : Addr) (fd : FuncData) (ps : List Str) (sp : Sp) : Prop where
  G : FnOk P w K mg base CX k f fd ps sp
  b : Binds K fd ps []
structure CalI (P : Program) (w : World) (K : PySem.W.Frag) (mg : Str → Option Value) (base : Heap) (CX : CXT) (k : Nat) (x : Str) (C f : Addr) (fd : FuncData) (ps : List Str) (sp : Sp) : Prop extends CalB P w K mg base CX k f fd ps sp where
  mkc : Mk K C f
  m : mg x = some (.ref C)
structure CalS (P : Program) (w : World) (K : PySem.W.Frag) (mg : Str → Option Value) (base : Heap) (CX : CXT) (k : Nat) (C p : Addr) (m : Str) (f : Addr) (fd : FuncData) (ps : List Str) (sp : Sp) : Prop extends CalB P w K mg base CX k f fd ps sp where
  rd : ClX.CRead K C (.type "type")
  sm : SMet K C (.type "type") m p f
structure CalP (P : Program) (w : World) (K : PySem.W.Frag) (mg : Str → Option Value) (base : Heap) (CX : CXT) (k : Nat) (C p : Addr) (m : Str) (f : Addr) (fd : FuncData) (ps : List Str) (sp : Sp) : Prop extends CalB P w K mg base CX k f fd ps sp where
  cl : Cls K C
  pr : PropOf K C m p f
structure CalO (P : Program) (w : World) (K : PySem.W.Frag) (mg : Str → Option Value) (base : Heap) (CX : CXT) (k : Nat) (C : Addr) (op : Operator) (f : Addr) (fd : FuncData) (ps : List Str) (sp : Sp) : Prop extends CalB P w K mg base CX k f fd ps sp where
  op : OpC K C f op
structure CalC (P : Program) (w : World) (K : PySem.W.Frag) (mg : Str → Option Value) (base : Heap) (CX : CXT) (k : Nat) (C f : Addr) (fd : FuncData) (ps : List Str) (sp : Sp) : Prop extends CalB P w K mg base CX k f fd ps sp where
  co : StX.CallO K C f

/-! ### the written part named (in comprehensions) -/
section
variable {X : Cx} {e : Expr} {es : List Expr} {f : Str} {pos p : Pos} {ta : TE} {t : TA}
theorem e_f (K : PySem.W.Frag) (he : PE X e ta) (hb : attributeBase e f X.env (eval e X.env) = eval e X.env := by rfl) (h : X.K = K := by rfl) : PE X (.Attribute e f pos) (tFld K ta f) := h ▸ pe_fld he hb
theorem e_cv (K : PySem.W.Frag) (he : PE X e ta) (hb : attributeBase e f X.env (eval e X.env) = eval e X.env := by rfl) (h : X.K = K := by rfl) : PE X (.Attribute e f pos) (ClX.tCVal K ta f) := h ▸ ClX.pe_cval he hb
end

/-! ### len of an own class -/
structure LenC (K : PySem.W.Frag) (C f : Addr) : Prop where
  at_ : PySem.W.findIn K (.ref C) "__len__" = some (some (.ref f))
  fn : PySem.W.isFn K (.ref f) = true
theorem call_lenO {X : Cx} {k : Nat} {C f : Addr} {fd : FuncData} {ps : List Str} {sp : Sp} (c : LenC X.K C f) (F : FnOk X.prog X.w X.K X.mg X.base CX0 k f fd ps sp) (hr : Room (k + 1) X.A) (hb : Binds X.K fd ps []) :
    CallR X (.builtin "len") (fun xs H Q => ∃ a dx fs, xs = [.ref a] ∧ H a = some (.ins C dx fs) ∧ sp [.ref a] H (fun v H' => ∃ n : Int, v = .int n ∧ 0 ≤ n ∧ n < 2 ^ 62 ∧ Q (.int n) H') E0) := by
  intro pins s σ H xs us Q I r h
  obtain ⟨a, dx, fs, rfl, ea, q⟩ := h
  obtain rfl := Vals.ref1 r
  obtain ⟨m, fr⟩ := I.fr
  obtain ⟨mA, O, _⟩ := ins_get I.hok ea
  obtain ⟨od, J, _⟩ := O.look
  refine PySem.W.len_K fr I.ok.mod.kin J c.at_ c.fn ?_
  have hl : ([Value.ref a] ++ []).length = ps.length := (F.len _ _ _ _ q)
  have b := hb s [.ref a] I.kIn hl
  rw [List.append_nil] at b
  refine wpAny_call (codeAny_mono (F.run X.A.in1 X.stack s H ⟨[.ref a], []⟩ [.ref a] [.ref a] _ E0 hr.in1 I.env0.in1 b (.cons rfl .nil) q) fun r s' hq' => ?_)
  cases r with
  | error e => exact False.elim hq'
  | ok fl =>
    cases fl with
    | ret u =>
      obtain ⟨v, H', I3, rv, n, rfl, h0, h1, q3⟩ := I.after hq'
      obtain ⟨t, rfl⟩ := rv
      exact ⟨⟨h0, Int.lt_trans h1 (by decide)⟩, ⟨.int n, H', I3.tok _, ⟨_, rfl⟩, q3⟩⟩
    | next => exact False.elim hq'
    | brk => exact False.elim hq'
    | cont => exact False.elim hq'
structure CalL (P : Program) (w : World) (K : PySem.W.Frag) (mg : Str → Option Value) (base : Heap) (CX : CXT) (k : Nat) (C f : Addr) (fd : FuncData) (ps : List Str) (sp : Sp) : Prop extends CalB P w K mg base CX k f fd ps sp where
  le : LenC K C f
end El

set_option Elab.async false
set_option linter.all false
set_option maxRecDepth 100000
set_option maxHeartbeats 4000000
/-! Own words: static methods and callable objects inside a try; exception classes that inherit their __init__. -/
namespace El
open PySem PySem.Spec PyProof.Rows L2
section
variable {X : Cx} {CX : CXT} {k : Nat} {C p g f : Addr} {mc : Value} {fd : FuncData} {ps : List Str} {sp : Sp} {E : L2.St → XK} {o e fe : Expr} {es : List Expr} {m : Str} {pos apos : Pos} {ta tf : TE} {t : TA} {pl : Sem Bool}
theorem code_fnS {pins : List (Addr × Obj)} {σ : L2.St} {H : Hp} {s : Shared} {Q : VK} {us : List Value} {vs : List V} (F : FnOk X.prog X.w X.K X.mg X.base CX k f fd ps sp) (hr : Room k X.A) (hb : Binds X.K fd ps []) (hx : PassesAt CX X σ (E σ))
    (I : Inv X pins σ H s) (r : Vals vs us) (h : sp vs H Q (E σ)) : codeAny (model X.prog X.w) X.A (.call (.ref f) ⟨us, []⟩) (fun r s' => match r with | .ok (.ret u) => EP X pins σ Q u s' | .error e => X.xe e s' | _ => False) s := by
  have hl : us.length = ps.length := by rw [← r.length]; exact F.len _ _ _ _ h
  have b := hb s us I.kIn (by rw [List.append_nil]; exact hl)
  rw [List.append_nil] at b
  refine codeAny_mono (F.run X.A X.stack s H ⟨us, []⟩ us vs Q (E σ) hr I.env0 b r h) fun r s' hq => ?_
  cases r with
  | error e => exact hx pins H s e s' I hq
  | ok fl =>
    cases fl with
    | ret u => exact I.after hq
    | next => exact False.elim hq
    | brk => exact False.elim hq
    | cont => exact False.elim hq
/-- C.m(e, ..), what it lets out being taken where it stands -/
def tSMS (C : Addr) (sp : Sp) (E : L2.St → XK) (ta : TE) (t : TA) : TE := fun σ H Q => ta σ H fun x H1 => x = .ref C ∧ t σ H1 fun vs H2 => sp vs H2 Q (E σ)
theorem pe_smethS (he : PE X o ta) (r : ClX.CRead X.K C mc) (c : SMet X.K C mc m p g) (F : FnOk X.prog X.w X.K X.mg X.base CX k g fd ps sp) (hr : Room k X.A) (hb : Binds X.K fd ps []) (hx : ∀ σ, PassesAt CX X σ (E σ)) (ha : PA X (e :: es) t)
    (hst : starEach (e :: es) X.env = (false, eval e X.env) :: starEach es X.env := by rfl) (hpl : (backTo pos (starEach es X.env)).any (·.1) = false := by rfl)
    (ht : eval (.Call (.Attribute o m apos) (e :: es) [] pos) X.env = (do
      let ov ← eval o X.env
      standAt apos.atName
      let (f, first) ← holding [ov] (getMethod ov m pl)
      callWith pos f first (backTo pos (starEach (e :: es) X.env)) (backToKw pos (keywordEach [] X.env))) := by rfl) :
    PE X (.Call (.Attribute o m apos) (e :: es) [] pos) (tSMS C sp E ta t) := by
  refine ⟨fun pins s σ H Q I h => ?_⟩
  refine PySem.W.methodCall_KW (pl := pl) (thn (he.run pins s σ H _ I h) fun u s1 ⟨x, H1, I1, rx, ex, q⟩ => ?_) ht
  subst ex
  obtain rfl : u = Value.ref C := rx
  refine getsm_ok I1 r c fun s2 I2 => ?_
  refine PySem.W.callWith_K (h₀ := X.base) I2.ok.mod.kin c.kp (thn (ha.run pos pins s2 σ H1 _ I2 q) fun us s3 ⟨vs, H2, I3, rv, q2⟩ => ⟨I3.kIn, ?_⟩) hst hpl
  exact run_fnS F hr hb (hx σ) I3 rv q2
/-- f(e, ..), f an instance of C, what it lets out being taken where it stands -/
def tCallOS (C : Addr) (sp : Sp) (E : L2.St → XK) (tf : TE) (t : TA) : TE := fun σ H Q => tf σ H fun y H1 => ∃ a, y = V.ref a ∧ t σ H1 fun vs H2 => (∃ dx fs, H2 a = some (.ins C dx fs)) ∧ sp (V.ref a :: vs) H2 Q (E σ)
theorem pe_callOS (hf : PE X fe tf) (c : StX.CallO X.K C g) (F : FnOk X.prog X.w X.K X.mg X.base CX k g fd ps sp) (hb : Binds X.K fd ps []) (hr : Room k X.A) (hx : ∀ σ, PassesAt CX X σ (E σ)) (ha : PA X (e :: es) t)
    (ht : eval (.Call fe (e :: es) [] pos) X.env = (do callWith pos (← eval fe X.env) [] (backTo pos (starEach (e :: es) X.env)) (backToKw pos (keywordEach [] X.env))) := by rfl)
    (he : starEach (e :: es) X.env = (false, eval e X.env) :: starEach es X.env := by rfl) (hpl : (backTo pos (starEach es X.env)).any (·.1) = false := by rfl) : PE X (.Call fe (e :: es) [] pos) (tCallOS C sp E tf t) := by
  refine ⟨fun pins s σ H Q I h => ?_⟩
  refine Call_ (thn (hf.run pins s σ H _ I h) fun u s1 ⟨y, H1, I1, ry, a, ey, q⟩ => ?_) ht
  subst ey
  obtain rfl : u = Value.ref a := ry
  refine StX.callO_with (thn (ha.run pos pins s1 σ H1 _ I1 q) fun us s2 ⟨vs, H2, I2, r, hi, q2⟩ => ?_) he hpl
  obtain ⟨ox, od, J, hd⟩ := StX.insC_at I2 (.inr hi)
  refine ⟨⟨C, ox, od, J, hd⟩, ?_⟩
  refine wpAny_call (PySem.W.kco_code I2.kIn J hd c.at_ c.fn c.fi (codeAny_mono (code_fnS (us := .ref a :: us) (vs := .ref a :: vs) F hr hb (hx σ) I2 (.cons rfl r) q2) fun r s' h => ?_))
  cases r with
  | error e => exact h
  | ok fl =>
    cases fl with
    | ret u => exact h
    | next => exact False.elim h
    | brk => exact False.elim h
    | cont => exact False.elim h
end

/-! ### an exception class C whose __init__ is that of D above it -/
open NdefX
structure ExI (K : PySem.W.Frag) (C D fI : Addr) (fields : List Str) : Prop where
  oex : OexC K C
  sup : PySem.W.ks_superIn K C D "__init__" = some (some (.builtin "ValueError.__init__"))
  subV : PySem.W.subIn K (.ref C) (.type "ValueError") = some true
  mro : PySem.W.mroIn K C (.ref D) = some true
  iC : PySem.W.findIn K (.ref C) "__init__" = some (some (.ref fI))
  tI : PySem.W.typeIn K (.ref fI) = some (.type "function")
  no : ∀ f ∈ fields, PySem.W.findIn K (.ref C) f = some none
  xf : XfC K C
  is : ExcC K C
theorem exi_mk {K : PySem.W.Frag} {C D fI N : Addr} {fields : List Str} {nm q : Str} {bs bm : List Value} {sn : List Str} {sub : List Value} {ab : Bool} {col : Option Bool} {dd : Option Addr} {k0 k1 k2 k3 k5 : Option Value}
    (cls : K.lookup C = some (excClassObj nm q C N bs bm true sn sub ab col dd k0 k1 k2 k3 k5 "ValueError.__new__")) (ref : PySem.HandSPX.refsVE bm = true)
    (sa : PySem.W.findIn K (.ref C) "__setattr__" = some (some (.builtin "object.__setattr__"))) (exC : PySem.W.subIn K (.ref C) (.type "BaseException") = some true) (tyC : PySem.W.typeIn K (.ref C) = some (.type "type")) (kC : PySem.W.keepIn K (.ref C) = true)
    (sup : PySem.W.ks_superIn K C D "__init__" = some (some (.builtin "ValueError.__init__"))) (subV : PySem.W.subIn K (.ref C) (.type "ValueError") = some true) (mro : PySem.W.mroIn K C (.ref D) = some true)
    (iC : PySem.W.findIn K (.ref C) "__init__" = some (some (.ref fI))) (tI : PySem.W.typeIn K (.ref fI) = some (.type "function")) (no : ∀ f ∈ fields, PySem.W.findIn K (.ref C) f = some none)
    (ga : PySem.W.findIn K (.ref C) "__getattribute__" = some (some (.builtin "BaseException.__getattribute__"))) (gg : PySem.W.findIn K (.ref C) "__getattr__" = some none) (hd : PySem.W.hasDictIn K C = true)
    (hcl : PySem.W.findIn K (.ref C) "__class__" = some (some (.builtin "object.__class__"))) (hn : PySem.W.specialIn K (.builtin "object.__class__") "__get__" = some (some (.builtin "getset_descriptor.__get__"))) (ht : PySem.W.takesIn K (.builtin "object.__class__") = some true) (hm : PySem.W.mroIn K C (.type "object") = some true) : ExI K C D fI fields :=
  ⟨⟨⟨nm, q, N, bs, bm, sn, sub, ab, col, dd, k0, k1, k2, k3, k5, cls, ref⟩, sa, exC, tyC, kC⟩, sup, subV, mro, iC, tI, no, ⟨ga, gg, exC, hd⟩, ⟨ga, gg, exC, hd, hcl, hn, ht, hm⟩⟩
structure CalEI (P : Program) (w : World) (K : PySem.W.Frag) (mg : Str → Option Value) (base : Heap) (k : Nat) (x : Str) (C f : Addr) (fd : FuncData) (ps : List Str) (ok : List V → Prop) (fs : List V → List (Str × V)) (fields : List Str) : Prop where
  G : FnOk P w K mg base CX0 k f fd ps (spE C ok fs)
  b : Binds K fd ps []
  X : ∃ D, ExI K C D f fields
  m : mg x = some (.ref C)
theorem CalEI.oex {P : Program} {w : World} {K : PySem.W.Frag} {mg : Str → Option Value} {base : Heap} {k : Nat} {x : Str} {C f : Addr} {fd : FuncData} {ps : List Str} {ok : List V → Prop} {fs : List V → List (Str × V)} {fields : List Str} (c : CalEI P w K mg base k x C f fd ps ok fs fields) : OexC K C := by obtain ⟨D, X⟩ := c.X; exact X.oex
theorem CalEI.iC {P : Program} {w : World} {K : PySem.W.Frag} {mg : Str → Option Value} {base : Heap} {k : Nat} {x : Str} {C f : Addr} {fd : FuncData} {ps : List Str} {ok : List V → Prop} {fs : List V → List (Str × V)} {fields : List Str} (c : CalEI P w K mg base k x C f fd ps ok fs fields) : PySem.W.findIn K (.ref C) "__init__" = some (some (.ref f)) := by obtain ⟨D, X⟩ := c.X; exact X.iC
theorem CalEI.tI {P : Program} {w : World} {K : PySem.W.Frag} {mg : Str → Option Value} {base : Heap} {k : Nat} {x : Str} {C f : Addr} {fd : FuncData} {ps : List Str} {ok : List V → Prop} {fs : List V → List (Str × V)} {fields : List Str} (c : CalEI P w K mg base k x C f fd ps ok fs fields) : PySem.W.typeIn K (.ref f) = some (.type "function") := by obtain ⟨D, X⟩ := c.X; exact X.tI
/-! ### characters whose repr is bounded -/
def Asc (z : Str) : Prop := ∀ c ∈ z.cps.toList, c < 16 ^ 8
theorem repr_le {z : Str} (h : Asc z) (hl : z.length ≤ 1000) : (reprText z).length ≤ 10002 := Nat.le_trans (PySem.StrLaws.reprText_len z h) (by omega)
end El

set_option Elab.async false
set_option linter.all false
set_option maxRecDepth 100000
set_option maxHeartbeats 4000000
namespace K11
open PySem PySem.Spec PyProof.Rows L2 El NdefX
def topS (i : Nat) : Stmt := PySem.Challenge.pw_elseput_k11_change_of_content.main.body.getD i (.Pass ⟨0, 0, 0, 0⟩)
abbrev s_is_name : Stmt := topS 18
theorem sc_is_name : FnScope ["text", "letter"] ["text"] (defScope s_is_name) := ⟨rfl, rfl, rfl, by decide +kernel, rfl, by decide +kernel, by decide +kernel⟩

abbrev s_in_bound : Stmt := topS 25
theorem sc_in_bound : FnScope ["value"] ["value"] (defScope s_in_bound) := ⟨rfl, rfl, rfl, by decide +kernel, rfl, by decide +kernel, by decide +kernel⟩

abbrev s_check_name : Stmt := topS 26
theorem sc_check_name : FnScope ["text"] ["text"] (defScope s_check_name) := ⟨rfl, rfl, rfl, by decide +kernel, rfl, by decide +kernel, by decide +kernel⟩

abbrev s_check_number : Stmt := topS 27
theorem sc_check_number : FnScope ["value"] ["value"] (defScope s_check_number) := ⟨rfl, rfl, rfl, by decide +kernel, rfl, by decide +kernel, by decide +kernel⟩

abbrev s_followed : Stmt := topS 35
theorem sc_followed : FnScope ["assignment", "later", "field", "deed", "number", "other", "later_deed", "later_number"] ["assignment", "later"] (defScope s_followed) := ⟨rfl, rfl, rfl, by decide +kernel, rfl, by decide +kernel, by decide +kernel⟩

abbrev s__law_state : Stmt := topS 41
theorem sc__law_state : FnScope ["_law_script"] ["_law_script"] (defScope s__law_state) := ⟨rfl, rfl, rfl, by decide +kernel, rfl, by decide +kernel, by decide +kernel⟩

abbrev s__law_draw : Stmt := topS 42
theorem sc__law_draw : FnScope ["_law_state_here", "_law_many", "_law_first", "_law_second", "_law_third", "_law_digit"] ["_law_state_here", "_law_many"] (defScope s__law_draw) := ⟨rfl, rfl, rfl, by decide +kernel, rfl, by decide +kernel, by decide +kernel⟩

abbrev s__law_pick : Stmt := topS 43
theorem sc__law_pick : FnScope ["_law_state_here", "_law_row"] ["_law_state_here", "_law_row"] (defScope s__law_pick) := ⟨rfl, rfl, rfl, by decide +kernel, rfl, by decide +kernel, by decide +kernel⟩

abbrev s__law_mixed : Stmt := topS 44
theorem sc__law_mixed : FnScope ["_law_state_here", "_law_row", "_law_rest", "_law_result", "_law_k", "_law_at"] ["_law_state_here", "_law_row"] (defScope s__law_mixed) := ⟨rfl, rfl, rfl, by decide +kernel, rfl, by decide +kernel, by decide +kernel⟩

abbrev s__law_number : Stmt := topS 45
theorem sc__law_number : FnScope ["_law_state_here", "_law_kind"] ["_law_state_here"] (defScope s__law_number) := ⟨rfl, rfl, rfl, by decide +kernel, rfl, by decide +kernel, by decide +kernel⟩

abbrev s__law_constant : Stmt := topS 46
theorem sc__law_constant : FnScope ["_law_state_here"] ["_law_state_here"] (defScope s__law_constant) := ⟨rfl, rfl, rfl, by decide +kernel, rfl, by decide +kernel, by decide +kernel⟩

abbrev s__law_names : Stmt := topS 47
theorem sc__law_names : FnScope ["_law_state_here", "_law_many", "_law_letters", "_law_style", "_law_shift", "_law_code", "_law_spot", "_law_base", "_law_k", "_law_reserved_here", "_law_result", "_law_word"] ["_law_state_here", "_law_many"] (defScope s__law_names) := ⟨rfl, rfl, rfl, by decide +kernel, rfl, by decide +kernel, by decide +kernel⟩

abbrev s__law_is_int : Stmt := topS 48
theorem sc__law_is_int : FnScope ["_law_thing"] ["_law_thing"] (defScope s__law_is_int) := ⟨rfl, rfl, rfl, by decide +kernel, rfl, by decide +kernel, by decide +kernel⟩

abbrev s__law_same : Stmt := topS 49
theorem sc__law_same : FnScope ["_law_actual", "_law_due", "_law_k", "_law_key"] ["_law_actual", "_law_due"] (defScope s__law_same) := ⟨rfl, rfl, rfl, by decide +kernel, rfl, by decide +kernel, by decide +kernel⟩

abbrev s__law_assignments : Stmt := topS 50
theorem sc__law_assignments : FnScope ["_law_state_here", "_law_fields", "_law_most", "_law_many", "_law_at", "_law_result", "_law_k", "_law_field"] ["_law_state_here", "_law_fields", "_law_most"] (defScope s__law_assignments) := ⟨rfl, rfl, rfl, by decide +kernel, rfl, by decide +kernel, by decide +kernel⟩

abbrev s__law_changed : Stmt := topS 51
theorem sc__law_changed : FnScope ["_law_rows", "_law_content", "_law_result", "_law_row"] ["_law_rows", "_law_content"] (defScope s__law_changed) := ⟨rfl, rfl, rfl, by decide +kernel, rfl, by decide +kernel, by decide +kernel⟩

abbrev s__law_change : Stmt := topS 52
theorem sc__law_change : FnScope ["_law_rows", "_law_result", "_law_row"] ["_law_rows"] (defScope s__law_change) := ⟨rfl, rfl, rfl, by decide +kernel, rfl, by decide +kernel, by decide +kernel⟩

abbrev s__law_reserved : Stmt := topS 53
theorem sc__law_reserved : FnScope ["_law_words"] [] (defScope s__law_reserved) := ⟨rfl, rfl, rfl, by decide +kernel, rfl, by decide +kernel, by decide +kernel⟩

abbrev s__law_bad_name : Stmt := topS 54
theorem sc__law_bad_name : FnScope ["_law_state_here", "_law_name", "_law_kind", "_law_others", "_law_spot"] ["_law_state_here", "_law_name", "_law_kind"] (defScope s__law_bad_name) := ⟨rfl, rfl, rfl, by decide +kernel, rfl, by decide +kernel, by decide +kernel⟩

abbrev s__law_bad_number : Stmt := topS 55
theorem sc__law_bad_number : FnScope ["_law_state_here", "_law_far"] ["_law_state_here"] (defScope s__law_bad_number) := ⟨rfl, rfl, rfl, by decide +kernel, rfl, by decide +kernel, by decide +kernel⟩

abbrev s__law_part : Stmt := topS 56
theorem sc__law_part : FnScope ["_law_content", "_law_code", "_law_result", "_law_field"] ["_law_content", "_law_code"] (defScope s__law_part) := ⟨rfl, rfl, rfl, by decide +kernel, rfl, by decide +kernel, by decide +kernel⟩

abbrev s__law_ask : Stmt := topS 57
theorem sc__law_ask : FnScope ["_law_made_here", "_law_content", "_law_handed", "e", "_law_told"] ["_law_made_here", "_law_content"] (defScope s__law_ask) := ⟨rfl, rfl, rfl, by decide +kernel, rfl, by decide +kernel, by decide +kernel⟩

abbrev s__law_acts : Stmt := topS 58
theorem sc__law_acts : FnScope ["_law_made_here", "_law_rows", "_law_content", "_law_due", "_law_row", "_law_told"] ["_law_made_here", "_law_rows", "_law_content"] (defScope s__law_acts) := ⟨rfl, rfl, rfl, by decide +kernel, rfl, by decide +kernel, by decide +kernel⟩

abbrev s__law_made : Stmt := topS 59
theorem sc__law_made : FnScope ["_law_word", "_law_field", "_law_number_here", "e", "_law_kinds"] ["_law_word", "_law_field", "_law_number_here"] (defScope s__law_made) := ⟨rfl, rfl, rfl, by decide +kernel, rfl, by decide +kernel, by decide +kernel⟩

abbrev s__law_refused : Stmt := topS 60
theorem sc__law_refused : FnScope ["_law_state_here", "_law_name", "_law_number_here", "_law_kind", "_law_bad_name_here", "_law_bad_number_here", "_law_word", "_law_field", "_law_value", "_law_due"] ["_law_state_here", "_law_name", "_law_number_here", "_law_kind"] (defScope s__law_refused) := ⟨rfl, rfl, rfl, by decide +kernel, rfl, by decide +kernel, by decide +kernel⟩

abbrev s__law_is : Stmt := topS 61
theorem sc__law_is : FnScope ["_law_made_here", "_law_rows", "_law_row"] ["_law_made_here", "_law_rows"] (defScope s__law_is) := ⟨rfl, rfl, rfl, by decide +kernel, rfl, by decide +kernel, by decide +kernel⟩

abbrev s_law : Stmt := topS 62
theorem sc_law : FnScope ["_law_script", "_law_state_here", "_law_names_here", "_law_rows", "_law_content", "_law_field", "_law_made_here", "_law_nothing", "_law_code", "_law_kind", "_law_part_here"] ["_law_script"] (defScope s_law) := ⟨rfl, rfl, rfl, by decide +kernel, rfl, by decide +kernel, by decide +kernel⟩

abbrev s_Change___init__ : Stmt := mthS (topS 34) 1
theorem sc_Change___init__ : FnScope ["self", "assignments"] ["self", "assignments"] (defScope s_Change___init__) := ⟨rfl, rfl, rfl, by decide +kernel, rfl, by decide +kernel, by decide +kernel⟩

abbrev s_Change_none : Stmt := mthS (topS 34) 2
theorem sc_Change_none : FnScope [] [] (defScope s_Change_none) := ⟨rfl, rfl, rfl, by decide +kernel, rfl, by decide +kernel, by decide +kernel⟩

abbrev s_Change_adding : Stmt := mthS (topS 34) 3
theorem sc_Change_adding : FnScope ["field", "number"] ["field", "number"] (defScope s_Change_adding) := ⟨rfl, rfl, rfl, by decide +kernel, rfl, by decide +kernel, by decide +kernel⟩

abbrev s_Change_setting : Stmt := mthS (topS 34) 4
theorem sc_Change_setting : FnScope ["field", "number"] ["field", "number"] (defScope s_Change_setting) := ⟨rfl, rfl, rfl, by decide +kernel, rfl, by decide +kernel, by decide +kernel⟩

abbrev s_Change_assigned : Stmt := mthS (topS 34) 6
theorem sc_Change_assigned : FnScope ["self", "part"] ["self"] (defScope s_Change_assigned) := ⟨rfl, rfl, rfl, by decide +kernel, rfl, by decide +kernel, by decide +kernel⟩

abbrev s_Change___call__ : Stmt := mthS (topS 34) 8
theorem sc_Change___call__ : FnScope ["self", "content", "field", "changed", "deed", "number"] ["self", "content"] (defScope s_Change___call__) := ⟨rfl, rfl, rfl, by decide +kernel, rfl, by decide +kernel, by decide +kernel⟩

abbrev s_Change___len__ : Stmt := mthS (topS 34) 9
theorem sc_Change___len__ : FnScope ["self"] ["self"] (defScope s_Change___len__) := ⟨rfl, rfl, rfl, by decide +kernel, rfl, by decide +kernel, by decide +kernel⟩

abbrev s_Change___rshift__ : Stmt := mthS (topS 34) 10
theorem sc_Change___rshift__ : FnScope ["self", "other", "both", "new", "part"] ["self", "other"] (defScope s_Change___rshift__) := ⟨rfl, rfl, rfl, by decide +kernel, rfl, by decide +kernel, by decide +kernel⟩

abbrev s_BadName : Stmt := mthS (topS 3) 0
theorem sc_BadName : NdefX.NScope ["self", "name", "__class__"] ["self", "name"] ["__class__"] (defScope s_BadName) := NdefX.nscope_by (by decide +kernel)
abbrev s_BadNumber : Stmt := mthS (topS 4) 0
theorem sc_BadNumber : NdefX.NScope ["self", "value", "__class__"] ["self", "value"] ["__class__"] (defScope s_BadNumber) := NdefX.nscope_by (by decide +kernel)
abbrev s_BadText : Stmt := mthS (topS 5) 0
theorem sc_BadText : NdefX.NScope ["self", "line", "column", "__class__"] ["self", "line", "column"] ["__class__"] (defScope s_BadText) := NdefX.nscope_by (by decide +kernel)
abbrev s_TooLarge : Stmt := mthS (topS 6) 0
theorem sc_TooLarge : NdefX.NScope ["self", "most", "__class__"] ["self", "most"] ["__class__"] (defScope s_TooLarge) := NdefX.nscope_by (by decide +kernel)
abbrev s_UnknownName : Stmt := mthS (topS 7) 0
theorem sc_UnknownName : NdefX.NScope ["self", "name", "__class__"] ["self", "name"] ["__class__"] (defScope s_UnknownName) := NdefX.nscope_by (by decide +kernel)
abbrev s_UnknownField : Stmt := mthS (topS 7) 0
theorem sc_UnknownField : NdefX.NScope ["self", "name", "__class__"] ["self", "name"] ["__class__"] (defScope s_UnknownField) := NdefX.nscope_by (by decide +kernel)
section
variable {P : Program} {w : World} {K : PySem.W.Frag} {mg : Str → Option Value} {base : Heap}
variable {t_BOUND t_LETTERS t_LONGEST_NAME : Tok} {a_RESERVED a_BadName a_BadNumber a_Change a_ElseputError a_TooLarge a_UnknownField a_UnknownKey a_UnknownName a_UnknownShape : Addr}
structure Gs (K : PySem.W.Frag) (mg : Str → Option Value) (t_BOUND t_LETTERS t_LONGEST_NAME : Tok) (a_RESERVED a_BadName a_BadNumber a_Change a_ElseputError a_TooLarge a_UnknownField a_UnknownKey a_UnknownName a_UnknownShape : Addr) : Prop where
  z_ValueError : mg "ValueError" = none
  z_all : mg "all" = none
  z_bool : mg "bool" = none
  z_dict : mg "dict" = none
  z_int : mg "int" = none
  z_isinstance : mg "isinstance" = none
  z_len : mg "len" = none
  z_list : mg "list" = none
  z_min : mg "min" = none
  z_property : mg "property" = none
  z_range : mg "range" = none
  z_staticmethod : mg "staticmethod" = none
  z_str : mg "str" = none
  z_super : mg "super" = none
  z_tuple : mg "tuple" = none
  g_BOUND : mg "BOUND" = some (.int 1000000000000000000000000000000 t_BOUND)
  g_LETTERS : mg "LETTERS" = some (.str "abcdefghijklmnopqrstuvwxyz" t_LETTERS)
  g_LONGEST_NAME : mg "LONGEST_NAME" = some (.int 12 t_LONGEST_NAME)
  g_RESERVED : mg "RESERVED" = some (.ref a_RESERVED)
  q_RESERVED : ∀ H, SqT K H a_RESERVED [(.str "always"), (.str "never"), (.str "and"), (.str "or"), (.str "not"), (.str "when"), (.str "add"), (.str "set"), (.str "change"), (.str "tell"), (.str "refuse"), (.str "take"), (.str "look"), (.str "free"), (.str "lock"), (.str "keep"), (.str "keys"), (.str "fields")]
  g_BadName : mg "BadName" = some (.ref a_BadName)
  n_BadName : PySem.W.nsIn K mainGlobals "BadName" = some (some (.ref a_BadName))
  x_BadName : ExV K a_BadName ["name"]
  g_BadNumber : mg "BadNumber" = some (.ref a_BadNumber)
  n_BadNumber : PySem.W.nsIn K mainGlobals "BadNumber" = some (some (.ref a_BadNumber))
  x_BadNumber : ExV K a_BadNumber ["value"]
  g_Change : mg "Change" = some (.ref a_Change)
  n_Change : PySem.W.nsIn K mainGlobals "Change" = some (some (.ref a_Change))
  g_ElseputError : mg "ElseputError" = some (.ref a_ElseputError)
  n_ElseputError : PySem.W.nsIn K mainGlobals "ElseputError" = some (some (.ref a_ElseputError))
  g_TooLarge : mg "TooLarge" = some (.ref a_TooLarge)
  n_TooLarge : PySem.W.nsIn K mainGlobals "TooLarge" = some (some (.ref a_TooLarge))
  x_TooLarge : ExV K a_TooLarge ["most"]
  g_UnknownField : mg "UnknownField" = some (.ref a_UnknownField)
  n_UnknownField : PySem.W.nsIn K mainGlobals "UnknownField" = some (some (.ref a_UnknownField))
  x_UnknownField : ExV K a_UnknownField ["name"]
  g_UnknownKey : mg "UnknownKey" = some (.ref a_UnknownKey)
  n_UnknownKey : PySem.W.nsIn K mainGlobals "UnknownKey" = some (some (.ref a_UnknownKey))
  g_UnknownName : mg "UnknownName" = some (.ref a_UnknownName)
  n_UnknownName : PySem.W.nsIn K mainGlobals "UnknownName" = some (some (.ref a_UnknownName))
  x_UnknownName : ExV K a_UnknownName ["name"]
  g_UnknownShape : mg "UnknownShape" = some (.ref a_UnknownShape)
  n_UnknownShape : PySem.W.nsIn K mainGlobals "UnknownShape" = some (some (.ref a_UnknownShape))
  cl_Change : Cls K a_Change
  na_Change_assignments : NoAttr K a_Change "assignments"
  cv_Change_MOST : ∃ u, ClX.CVal K a_Change (.type "type") "MOST" (.int 3) u
  rd_Change : ClX.CRead K a_Change (.type "type")
  m_BadName_ElseputError : PySem.W.exmOne K (.ref a_BadName) (.ref a_ElseputError) = some true
  m_BadNumber_ElseputError : PySem.W.exmOne K (.ref a_BadNumber) (.ref a_ElseputError) = some true
  m_TooLarge_ElseputError : PySem.W.exmOne K (.ref a_TooLarge) (.ref a_ElseputError) = some true
  m_UnknownField_ElseputError : PySem.W.exmOne K (.ref a_UnknownField) (.ref a_ElseputError) = some true
  k_BadName_UnknownField : PySem.W.kitOne K (.ref a_BadName) (.ref a_UnknownField) = some false
  k_BadName_UnknownName : PySem.W.kitOne K (.ref a_BadName) (.ref a_UnknownName) = some false
  k_BadName_ValueError : PySem.W.kitOne K (.ref a_BadName) (.type "ValueError") = some true
  k_BadName_UnknownKey : PySem.W.kitOne K (.ref a_BadName) (.ref a_UnknownKey) = some false
  k_BadName_UnknownShape : PySem.W.kitOne K (.ref a_BadName) (.ref a_UnknownShape) = some false
  k_BadName_BadName : PySem.W.kitOne K (.ref a_BadName) (.ref a_BadName) = some true
  k_BadName_BadNumber : PySem.W.kitOne K (.ref a_BadName) (.ref a_BadNumber) = some false
  k_BadNumber_UnknownField : PySem.W.kitOne K (.ref a_BadNumber) (.ref a_UnknownField) = some false
  k_BadNumber_UnknownName : PySem.W.kitOne K (.ref a_BadNumber) (.ref a_UnknownName) = some false
  k_BadNumber_ValueError : PySem.W.kitOne K (.ref a_BadNumber) (.type "ValueError") = some true
  k_BadNumber_UnknownKey : PySem.W.kitOne K (.ref a_BadNumber) (.ref a_UnknownKey) = some false
  k_BadNumber_UnknownShape : PySem.W.kitOne K (.ref a_BadNumber) (.ref a_UnknownShape) = some false
  k_BadNumber_BadName : PySem.W.kitOne K (.ref a_BadNumber) (.ref a_BadName) = some false
  k_BadNumber_BadNumber : PySem.W.kitOne K (.ref a_BadNumber) (.ref a_BadNumber) = some true
  k_TooLarge_UnknownField : PySem.W.kitOne K (.ref a_TooLarge) (.ref a_UnknownField) = some false
  k_TooLarge_UnknownName : PySem.W.kitOne K (.ref a_TooLarge) (.ref a_UnknownName) = some false
  k_TooLarge_ValueError : PySem.W.kitOne K (.ref a_TooLarge) (.type "ValueError") = some true
  k_TooLarge_UnknownKey : PySem.W.kitOne K (.ref a_TooLarge) (.ref a_UnknownKey) = some false
  k_TooLarge_UnknownShape : PySem.W.kitOne K (.ref a_TooLarge) (.ref a_UnknownShape) = some false
  k_TooLarge_BadName : PySem.W.kitOne K (.ref a_TooLarge) (.ref a_BadName) = some false
  k_TooLarge_BadNumber : PySem.W.kitOne K (.ref a_TooLarge) (.ref a_BadNumber) = some false
  k_UnknownField_UnknownField : PySem.W.kitOne K (.ref a_UnknownField) (.ref a_UnknownField) = some true
  k_UnknownField_UnknownName : PySem.W.kitOne K (.ref a_UnknownField) (.ref a_UnknownName) = some true
  k_UnknownField_ValueError : PySem.W.kitOne K (.ref a_UnknownField) (.type "ValueError") = some true
  k_UnknownField_UnknownKey : PySem.W.kitOne K (.ref a_UnknownField) (.ref a_UnknownKey) = some false
  k_UnknownField_UnknownShape : PySem.W.kitOne K (.ref a_UnknownField) (.ref a_UnknownShape) = some false
  k_UnknownField_BadName : PySem.W.kitOne K (.ref a_UnknownField) (.ref a_BadName) = some false
  k_UnknownField_BadNumber : PySem.W.kitOne K (.ref a_UnknownField) (.ref a_BadNumber) = some false
/-! ### the script's state -/
def stv (scr : Addr) (i v m c : Int) : List V := [.ref scr, .int i, .int v, .int m, .int c]
def DrAt (H : Hp) (st scr : Addr) : Prop := ∃ (ns : List Int) (i v m c : Int), H st = some (.lst (stv scr i v m c)) ∧ H scr = some (.lst (ns.map V.int)) ∧ ns.length ≤ 63 ∧ 0 ≤ i
theorem DrAt.ne {H : Hp} {st scr : Addr} {ns : List Int} {i v m c : Int} (h : H st = some (.lst (stv scr i v m c))) (h2 : H scr = some (.lst (ns.map V.int))) : scr ≠ st := by
  refine ne_of h2 h fun e => ?_
  injection e with e
  cases ns with
  | nil => simp [stv] at e
  | cons a r => simp [stv] at e
theorem DrAt.upd {H : Hp} {st scr : Addr} {ns : List Int} {i v m c i' v' m' c' : Int} (h : H st = some (.lst (stv scr i v m c))) (h2 : H scr = some (.lst (ns.map V.int))) (hl : ns.length ≤ 63) (h0 : 0 ≤ i') : DrAt (upd H st (.lst (stv scr i' v' m' c'))) st scr :=
  ⟨ns, i', v', m', c', upd_same, by rw [upd_ne (DrAt.ne h h2)]; exact h2, hl, h0⟩
theorem upd_id {H : Hp} {a : Addr} {o : HO} (h : H a = some o) : upd H a o = H := by
  funext b
  unfold L2.upd
  split
  · rename_i e; rw [e, h]
  · rfl
theorem DrAt.lst {H : Hp} {st scr : Addr} (h : DrAt H st scr) : ∃ l, H st = some (.lst l) := by
  obtain ⟨ns, i, v, m, c, h, _⟩ := h
  exact ⟨_, h⟩
theorem DrAt.new {H H' : Hp} {st scr : Addr} (h : DrAt H st scr) (s : Same H H') : DrAt H' st scr := by
  obtain ⟨ns, i, v, m, c, h1, h2, h3⟩ := h
  exact ⟨ns, i, v, m, c, s _ _ h1, s _ _ h2, h3⟩
theorem DrAt.at {H : Hp} {st scr p : Addr} {o : HO} (h : DrAt H st scr) (h1 : p ≠ st) (h2 : p ≠ scr) : DrAt (L2.upd H p o) st scr := by
  obtain ⟨ns, i, v, m, c, e1, e2, h3⟩ := h
  exact ⟨ns, i, v, m, c, by rw [upd_ne h1.symm]; exact e1, by rw [upd_ne h2.symm]; exact e2, h3⟩
theorem same_new {H : Hp} {p : Addr} {o : HO} (h : H p = none) : Same H (upd H p o) := fun b u q => by rw [upd_ne (ne_of_none q h)]; exact q
theorem free_new {H : Hp} {p q : Addr} {o : HO} (h : upd H p o q = none) : H q = none := by
  unfold L2.upd at h
  split at h
  · cases h
  · exact h
theorem new_ne {H : Hp} {p q : Addr} {o : HO} (h : upd H p o q = none) : q ≠ p := fun e => by rw [e, upd_same] at h; cases h
theorem len_add (a b : Str) : (a ++ b).length = a.length + b.length := by
  show (a.cps ++ b.cps).size = _
  rw [Array.size_append]
  rfl
theorem cps_add (a b : Str) : (a ++ b).cps.toList = a.cps.toList ++ b.cps.toList := by
  show (a.cps ++ b.cps).toList = _
  rw [Array.toList_append]
theorem len_cps (z : Str) : z.cps.toList.length = z.length := Array.length_toList
theorem line_of {n : Nat} (h : n ≤ 100000) : n ≤ sizeLine := Nat.le_trans h (by decide)
theorem line_lt {n : Nat} (h : n < 100000) : n < sizeLine := Nat.lt_of_lt_of_le h (by decide)
/-- all that stood stands, st's own numbers aside -/
def Bt (st : Addr) (H H' : Hp) : Prop := ∀ b o, b ≠ st → H b = some o → H' b = some o
theorem Bt.refl (st : Addr) (H : Hp) : Bt st H H := fun _ _ _ h => h
theorem Bt.trans {st : Addr} {H H1 H2 : Hp} (a : Bt st H H1) (b : Bt st H1 H2) : Bt st H H2 := fun c o n h => b c o n (a c o n h)
theorem Bt.same {st : Addr} {H H' : Hp} (s : Same H H') : Bt st H H' := fun b o _ h => s b o h
theorem Bt.st {st : Addr} {H : Hp} {o : HO} : Bt st H (upd H st o) := fun b u n h => by rw [upd_ne n]; exact h
theorem Bt.free {st : Addr} {H H' : Hp} (s : Bt st H H') {l : Addr} (n : l ≠ st) (h : H' l = none) : H l = none := by
  cases q : H l with
  | none => rfl
  | some o => rw [s l o n q] at h; cases h
theorem DrAt.ne_new {H : Hp} {st scr p : Addr} (h : DrAt H st scr) (n : H p = none) : p ≠ st := by
  obtain ⟨l, e⟩ := h.lst
  exact (ne_of_none e n).symm

theorem DrAt.ne_scr {H : Hp} {st scr p : Addr} (h : DrAt H st scr) (n : H p = none) : p ≠ scr := by
  obtain ⟨ns, i, v, m, c, e1, e2, h3⟩ := h
  exact (ne_of_none e2 n).symm

/-! ### is_name -/
abbrev letters : Str := "abcdefghijklmnopqrstuvwxyz"
abbrev resv : List V := [.str "always", .str "never", .str "and", .str "or", .str "not", .str "when", .str "add", .str "set", .str "change", .str "tell", .str "refuse", .str "take", .str "look", .str "free", .str "lock", .str "keep", .str "keys", .str "fields"]
def isName (z : Str) : Bool := if (decide ((z.length : Int) < 1) || decide ((12 : Int) < z.length) || inV (.str z) resv) = true then false else z.cps.toList.all fun c => decide (c ∈ letters.cps.toList)
def sp_is_name (K : PySem.W.Frag) : Sp := fun vs H Q _ => ∃ z : Str, vs = [.str z] ∧ z.length ≤ 1000 ∧ ∀ H', Same H H' → Q (.bl (isName z)) H'
theorem len_is_name {vs : List V} {H : Hp} {Q : VK} {E : XK} (h : sp_is_name K vs H Q E) : vs.length = 1 := by
  obtain ⟨_, rfl, _⟩ := h
  rfl
theorem ok_is_name {f : Addr} {fd : FuncData} (F : Fun K "is_name" "is_name" s_is_name f fd) (T : Gs K mg t_BOUND t_LETTERS t_LONGEST_NAME a_RESERVED a_BadName a_BadNumber a_Change a_ElseputError a_TooLarge a_UnknownField a_UnknownKey a_UnknownName a_UnknownShape) : FnOk P w K mg base CX0 1 f fd ["text"] (sp_is_name K) := by
  refine F.ok sc_is_name (fun vs H Q E h => len_is_name h) (fun cdv A outer s H vs Q E hr h => ?_)
  obtain ⟨z, rfl, h0, q⟩ := h
  refine ⟨_, (pss_cons (ps_if (PW.pt (pw_or (pt_c op_ltM (pe_callB (lenK K) (by rfl) T.z_len PySem.boot_len (pa_cons (v_ 0) pa_nil)) pe_int) (pw_or (pt_c op_gtM (pe_callB (lenK K) (by rfl) T.z_len PySem.boot_len (pa_cons (v_ 0) pa_nil)) (pe_glob (v := .int 12) rfl T.g_LONGEST_NAME ⟨_, rfl⟩)) (pw_or1 (pt_c (inK K) (v_ 0) (pe_glob (v := .ref a_RESERVED) rfl T.g_RESERVED rfl)))))) (pss_one (ps_ret pe_bl)) pss_nil) (pss_one (ps_ret (pe_callB (allK K rfl) (by rfl) T.z_all (by decide +kernel) (pa_cons (pe_lc (own := [("letter", 1)]) (g := gName 1) (by rfl) sc_is_name.nd (pi_str (v_ 0)) (blkOk_by (N := ["text", "letter"]) (sc := defScope s_is_name) (by decide +kernel)) (fun _ _ _ _ _ => pg_name (i := 1) sc_is_name.nd rfl (Or.inl rfl)) (fun _ _ _ _ _ => pts_nil) (fun _ _ _ _ _ => (pe_c (inK K) (v_ 1) (pe_glob (v := .str "abcdefghijklmnopqrstuvwxyz") rfl T.g_LETTERS ⟨_, rfl⟩)))) pa_nil))))), ?_⟩
  refine ⟨line_of (by omega), ?_⟩
  have no : ∀ c : Bool, (decide ((z.length : Int) < 1) || decide ((12 : Int) < z.length) || inV (.str z) resv) = c → isName z = if c = true then false else z.cps.toList.all fun c => decide (c ∈ letters.cps.toList) := fun c e => by
    rw [← e]; rfl
  refine ite2 (fun e => ?_) (fun e => ?_)
  · have := q H (Same.refl H)
    rw [no true (by rw [show decide ((z.length : Int) < 1) = true from e]; rfl)] at this
    exact this
  refine ⟨line_of (by omega), ?_⟩
  refine ite2 (fun e1 => ?_) (fun e1 => ?_)
  · have := q H (Same.refl H)
    rw [no true (by rw [show decide ((12 : Int) < z.length) = true from e1, Bool.or_true]; rfl)] at this
    exact this
  refine ⟨_, .inr (T.q_RESERVED _), rfl, rfl, ?_⟩
  refine ite2 (fun e2 => ?_) (fun e2 => ?_)
  · have := q H (Same.refl H)
    rw [no true (by rw [show inV (.str z) resv = true from e2, Bool.or_true])] at this
    exact this
  have en : isName z = z.cps.toList.all fun c => decide (c ∈ letters.cps.toList) := by
    rw [no false (by rw [show decide ((z.length : Int) < 1) = false from Bool.eq_false_iff.mpr e, show decide ((12 : Int) < z.length) = false from Bool.eq_false_iff.mpr e1, show inV (.str z) resv = false from Bool.eq_false_iff.mpr e2]; rfl)]
    rfl
  refine ⟨z, rfl, fun D nD => lc_it walk_str (fun i H' => H' = upd H D (.lst (((z.cps.toList.take i).map fun c => decide (c ∈ letters.cps.toList)).map V.bl))) rfl (fun _ _ _ _ => True.intro) ?_ ?_⟩
  · rintro i x H1 H2 hi rfl ⟨rfl, c, hc, rfl⟩
    refine ⟨rfl, ?_⟩
    refine ⟨c, rfl, _, upd_same, ?_, ?_⟩
    · rw [List.length_map, List.length_map, List.length_take]
      have : z.cps.size = z.length := rfl
      exact small1000 (by omega)
    · rw [upd_upd]
      have e : z.cps.toList.take (i + 1) = z.cps.toList.take i ++ [c] := by
        rw [List.take_add_one, Array.getElem?_toList, hc]
        rfl
      rw [e, List.map_append, List.map_append]
      rfl
  · rintro H1 rfl
    rw [show z.cps.size = z.cps.toList.length from (Array.length_toList).symm, List.take_length]
    refine ⟨_, _, rfl, SqL.of upd_same, ?_⟩
    have := q _ (same_new nD (o := .lst ((z.cps.toList.map fun c => decide (c ∈ letters.cps.toList)).map V.bl)))
    rw [en] at this
    rw [List.all_map]
    exact this


end
section
variable {P : Program} {w : World} {K : PySem.W.Frag} {mg : Str → Option Value} {base : Heap}
variable {t_BOUND t_LETTERS t_LONGEST_NAME : Tok} {a_RESERVED a_BadName a_BadNumber a_Change a_ElseputError a_TooLarge a_UnknownField a_UnknownKey a_UnknownName a_UnknownShape : Addr}
/-! ### checks -/
theorem isName_mem {z : Str} (h : isName z = true) : (∀ c ∈ z.cps.toList, c ∈ letters.cps.toList) ∧ 1 ≤ z.length ∧ z.length ≤ 12 ∧ inV (.str z) resv = false := by
  unfold isName at h
  split at h
  · exact absurd h (by decide)
  · rename_i hc
    rw [Bool.not_eq_true, Bool.or_eq_false_iff, Bool.or_eq_false_iff, decide_eq_false_iff_not, decide_eq_false_iff_not] at hc
    exact ⟨fun c hm => of_decide_eq_true (List.all_eq_true.mp h c hm), by omega, by omega, hc.2⟩
theorem letters_small : ∀ c ∈ letters.cps.toList, c < 16 ^ 8 := by decide +kernel
theorem isName_asc {z : Str} (h : isName z = true) : Asc z := fun c hc => letters_small c ((isName_mem h).1 c hc)
def inB (i : Int) : Bool := decide (-1000000000000000000000000000000 ≤ i) && decide (i ≤ 1000000000000000000000000000000)
def BadN (K : PySem.W.Frag) (H : Hp) (z : Str) (E : XK) : Prop := ∀ (C d : Addr) (H' : Hp), PySem.W.nsIn K mainGlobals "BadName" = some (some (.ref C)) → Same H H' → H d = none → H' d = some (.xd [("name", .str z)]) → E (.ref C) (some d) H'
def BadI (K : PySem.W.Frag) (H : Hp) (i : Int) (E : XK) : Prop := ∀ (C d : Addr) (H' : Hp), PySem.W.nsIn K mainGlobals "BadNumber" = some (some (.ref C)) → Same H H' → H d = none → H' d = some (.xd [("value", .int i)]) → E (.ref C) (some d) H'
theorem BadN.same {K : PySem.W.Frag} {H H1 : Hp} {z : Str} {E : XK} (h : BadN K H z E) (s : Same H H1) : BadN K H1 z E := fun C d H' hC s2 nd hd => h C d H' hC (s.trans s2) (Same.free s nd) hd
theorem BadI.same {K : PySem.W.Frag} {H H1 : Hp} {z : Int} {E : XK} (h : BadI K H z E) (s : Same H H1) : BadI K H1 z E := fun C d H' hC s2 nd hd => h C d H' hC (s.trans s2) (Same.free s nd) hd
def okx_BadName (ws : List V) : Prop := ∃ z : Str, ws = [.str z] ∧ z.length ≤ 1000 ∧ Asc z
def fs_BadName (ws : List V) : List (Str × V) := match ws with | [l] => [("name", l)] | _ => []
def okx_UnknownField (ws : List V) : Prop := okx_BadName ws
def fs_UnknownField (ws : List V) : List (Str × V) := fs_BadName ws
def okx_BadNumber (ws : List V) : Prop := ∃ l : Int, ws = [.int l] ∧ l.natAbs < 2 ^ 200
def fs_BadNumber (ws : List V) : List (Str × V) := match ws with | [l] => [("value", l)] | _ => []
theorem len_spE {C : Addr} {ok : List V → Prop} {fs : List V → List (Str × V)} {n : Nat} (hn : ∀ ws, ok ws → ws.length = n) {vs : List V} {H : Hp} {Q : VK} {E : XK} (h : spE C ok fs vs H Q E) : vs.length = n + 1 := by
  obtain ⟨a, ws, rfl, h, _⟩ := h
  rw [List.length_cons, hn _ h]
theorem log_200 {i : Int} (h : i.natAbs < 2 ^ 200) : i.natAbs.log2 < 1920 := by
  by_cases hz : i.natAbs = 0
  · rw [hz]
    decide
  · exact (Nat.log2_lt hz).mpr (Nat.lt_of_lt_of_le h (Nat.pow_le_pow_right (by decide) (by decide)))
theorem ok_BadName {C f cc cda : Addr} {doc pm ct oc ccl cl : Value} {od cdd cld : Option Addr} {osl ccs csl : Array (Option Value)} {vs0 : Array Value} {file : Str} {tf : Tok} {cdD : ClassData}
    (X : ExK K C f ["name"]) (lk : K.lookup f = some ⟨oc, od, .func (PySem.W.fnX "__init__" "BadName.__init__" (defArgs s_BadName) (defBody s_BadName) (defScope s_BadName) [("__class__", cc)] .none .none doc pm none (.ref cda) ct), osl⟩)
    (hcd : PySem.W.codeIn K (.ref cda) "BadName.__init__" = true) (hcode : K.lookup cda = some ⟨ccl, cdd, .fields vs0, ccs⟩) (hvs : vs0[2]? = some (.str file tf)) (hfile : ((P.main.file : Str) == file) = true)
    (hcell : K.lookup cc = some ⟨cl, cld, .cell (some (.ref C)), csl⟩) (hD : PySem.W.clsIn K C = some cdD) (hsuper : mg "super" = none) (hop : PySem.W.nsIn K PySem.cStatics "thirdparty.any" = some none) (htop : (P.main.scope.names.lookup ("super" : Str)).isSome = false) :
    FnOk P w K mg base CX0 1 f (PySem.W.fnX "__init__" "BadName.__init__" (defArgs s_BadName) (defBody s_BadName) (defScope s_BadName) [("__class__", cc)] .none .none doc pm none (.ref cda) ct) ["self", "name"] (spE C okx_BadName fs_BadName) := by
  refine fn_super lk hcd sc_BadName hcode hvs hfile hcell hD hsuper hop rfl rfl rfl htop rfl (fun vs H Q E h => len_spE (n := 1) (fun ws h => by obtain ⟨_, rfl, _⟩ := h; rfl) h) (fun A outer s H vs Q E hr h => ?_) (fun _ => rfl) (fun _ => rfl) (fun _ => rfl)
  obtain ⟨a, ws, rfl, ⟨l, rfl, l0, l1⟩, ea, q⟩ := h
  refine ⟨a, C, _, _, rfl, ea, X.oex, X.mro, X.sup, X.subV, pa_cons (pe_joined (.cons pe_str (.cons (pe_fmtR (v_ 1)) .nil))) pa_nil, pss_one (ps_ost (v_ 0) (v_ 1)), ?_⟩
  have tl := repr_le l1 l0
  have z0 : Str.empty.length = 0 := rfl
  have z1 : (Str.ofString "not a name: ").length = 12 := rfl
  refine ⟨_, rfl, line_of (by rw [len_add]; omega), .inl ⟨_, rfl, line_of (by omega), _, rfl, line_of (by rw [len_add, len_add]; omega), ?_⟩⟩
  refine ⟨ea, (by show 1 ≤ 1000; decide), ?_⟩
  exact ⟨a, C, rfl, X.oex, X.no _ (by simp), .inl ⟨ea, ost1 ea fun dx H' n ne e1 e2 hh => q dx _ n ne e1 e2 hh⟩⟩
theorem ok_BadNumber {C f cc cda : Addr} {doc pm ct oc ccl cl : Value} {od cdd cld : Option Addr} {osl ccs csl : Array (Option Value)} {vs0 : Array Value} {file : Str} {tf : Tok} {cdD : ClassData}
    (X : ExK K C f ["value"]) (lk : K.lookup f = some ⟨oc, od, .func (PySem.W.fnX "__init__" "BadNumber.__init__" (defArgs s_BadNumber) (defBody s_BadNumber) (defScope s_BadNumber) [("__class__", cc)] .none .none doc pm none (.ref cda) ct), osl⟩)
    (hcd : PySem.W.codeIn K (.ref cda) "BadNumber.__init__" = true) (hcode : K.lookup cda = some ⟨ccl, cdd, .fields vs0, ccs⟩) (hvs : vs0[2]? = some (.str file tf)) (hfile : ((P.main.file : Str) == file) = true)
    (hcell : K.lookup cc = some ⟨cl, cld, .cell (some (.ref C)), csl⟩) (hD : PySem.W.clsIn K C = some cdD) (hsuper : mg "super" = none) (hop : PySem.W.nsIn K PySem.cStatics "thirdparty.any" = some none) (htop : (P.main.scope.names.lookup ("super" : Str)).isSome = false) :
    FnOk P w K mg base CX0 1 f (PySem.W.fnX "__init__" "BadNumber.__init__" (defArgs s_BadNumber) (defBody s_BadNumber) (defScope s_BadNumber) [("__class__", cc)] .none .none doc pm none (.ref cda) ct) ["self", "value"] (spE C okx_BadNumber fs_BadNumber) := by
  refine fn_super lk hcd sc_BadNumber hcode hvs hfile hcell hD hsuper hop rfl rfl rfl htop rfl (fun vs H Q E h => len_spE (n := 1) (fun ws h => by obtain ⟨_, rfl, _⟩ := h; rfl) h) (fun A outer s H vs Q E hr h => ?_) (fun _ => rfl) (fun _ => rfl) (fun _ => rfl)
  obtain ⟨a, ws, rfl, ⟨l, rfl, l0⟩, ea, q⟩ := h
  refine ⟨a, C, _, _, rfl, ea, X.oex, X.mro, X.sup, X.subV, pa_cons (pe_joined (.cons pe_str (.cons (pe_fmt (v_ 1)) .nil))) pa_nil, pss_one (ps_ost (v_ 0) (v_ 1)), ?_⟩
  have tl := int_text_len_1921 (log_200 l0)
  have z0 : Str.empty.length = 0 := rfl
  have z1 : (Str.ofString "out of bounds: ").length = 15 := rfl
  refine ⟨_, rfl, line_of (by rw [len_add]; omega), .inr ⟨_, rfl, log_200 l0, _, rfl, line_of (by rw [len_add, len_add]; omega), ?_⟩⟩
  refine ⟨ea, (by show 1 ≤ 1000; decide), ?_⟩
  exact ⟨a, C, rfl, X.oex, X.no _ (by simp), .inl ⟨ea, ost1 ea fun dx H' n ne e1 e2 hh => q dx _ n ne e1 e2 hh⟩⟩
theorem ok_UnknownField {C f cc cda D : Addr} {doc pm ct oc ccl cl : Value} {od cdd cld : Option Addr} {osl ccs csl : Array (Option Value)} {vs0 : Array Value} {file : Str} {tf : Tok} {cdD : ClassData}
    (X : ExI K C D f ["name"]) (lk : K.lookup f = some ⟨oc, od, .func (PySem.W.fnX "__init__" "UnknownName.__init__" (defArgs s_UnknownField) (defBody s_UnknownField) (defScope s_UnknownField) [("__class__", cc)] .none .none doc pm none (.ref cda) ct), osl⟩)
    (hcd : PySem.W.codeIn K (.ref cda) "UnknownName.__init__" = true) (hcode : K.lookup cda = some ⟨ccl, cdd, .fields vs0, ccs⟩) (hvs : vs0[2]? = some (.str file tf)) (hfile : ((P.main.file : Str) == file) = true)
    (hcell : K.lookup cc = some ⟨cl, cld, .cell (some (.ref D)), csl⟩) (hD : PySem.W.clsIn K D = some cdD) (hsuper : mg "super" = none) (hop : PySem.W.nsIn K PySem.cStatics "thirdparty.any" = some none) (htop : (P.main.scope.names.lookup ("super" : Str)).isSome = false) :
    FnOk P w K mg base CX0 1 f (PySem.W.fnX "__init__" "UnknownName.__init__" (defArgs s_UnknownField) (defBody s_UnknownField) (defScope s_UnknownField) [("__class__", cc)] .none .none doc pm none (.ref cda) ct) ["self", "name"] (spE C okx_UnknownField fs_UnknownField) := by
  refine fn_super lk hcd sc_UnknownField hcode hvs hfile hcell hD hsuper hop rfl rfl rfl htop rfl (fun vs H Q E h => len_spE (n := 1) (fun ws h => by obtain ⟨_, rfl, _⟩ := h; rfl) h) (fun A outer s H vs Q E hr h => ?_) (fun _ => rfl) (fun _ => rfl) (fun _ => rfl)
  obtain ⟨a, ws, rfl, ⟨l, rfl, l0, l1⟩, ea, q⟩ := h
  refine ⟨a, C, _, _, rfl, ea, X.oex, X.mro, X.sup, X.subV, pa_cons (pe_joined (.cons pe_str (.cons (pe_fmtR (v_ 1)) .nil))) pa_nil, pss_one (ps_ost (v_ 0) (v_ 1)), ?_⟩
  have tl := repr_le l1 l0
  have z0 : Str.empty.length = 0 := rfl
  have z1 : (Str.ofString "unknown: ").length = 9 := rfl
  refine ⟨_, rfl, line_of (by rw [len_add]; omega), .inl ⟨_, rfl, line_of (by omega), _, rfl, line_of (by rw [len_add, len_add]; omega), ?_⟩⟩
  refine ⟨ea, (by show 1 ≤ 1000; decide), ?_⟩
  exact ⟨a, C, rfl, X.oex, X.no _ (by simp), .inl ⟨ea, ost1 ea fun dx H' n ne e1 e2 hh => q dx _ n ne e1 e2 hh⟩⟩
end
section
variable {P : Program} {w : World} {K : PySem.W.Frag} {mg : Str → Option Value} {base : Heap}
variable {t_BOUND t_LETTERS t_LONGEST_NAME : Tok} {a_RESERVED a_BadName a_BadNumber a_Change a_ElseputError a_TooLarge a_UnknownField a_UnknownKey a_UnknownName a_UnknownShape : Addr}
def sp_in_bound (K : PySem.W.Frag) : Sp := fun vs H Q _ => ∃ i : Int, vs = [.int i] ∧ Q (.bl (inB i)) H
theorem len_in_bound {vs : List V} {H : Hp} {Q : VK} {E : XK} (h : sp_in_bound K vs H Q E) : vs.length = 1 := by
  obtain ⟨_, rfl, _⟩ := h
  rfl
theorem ok_in_bound {f : Addr} {fd : FuncData} (F : Fun K "in_bound" "in_bound" s_in_bound f fd) (T : Gs K mg t_BOUND t_LETTERS t_LONGEST_NAME a_RESERVED a_BadName a_BadNumber a_Change a_ElseputError a_TooLarge a_UnknownField a_UnknownKey a_UnknownName a_UnknownShape) : FnOk P w K mg base CX0 1 f fd ["value"] (sp_in_bound K) := by
  refine F.ok sc_in_bound (fun vs H Q E h => len_in_bound h) (fun cdv A outer s H vs Q E hr h => ?_)
  obtain ⟨i, rfl, q⟩ := h
  refine ⟨_, (pss_one (ps_ret (pe_chain op_leM op_leM (pe_un un_negM (pe_glob (v := .int 1000000000000000000000000000000) rfl T.g_BOUND ⟨_, rfl⟩)) (v_ 0) (pe_glob (v := .int 1000000000000000000000000000000) rfl T.g_BOUND ⟨_, rfl⟩)))), ?_⟩
  refine ⟨_, rfl, ?_⟩
  unfold inB at q
  refine ite2 (fun e => ?_) (fun e => ?_)
  · have e : decide (-1000000000000000000000000000000 ≤ i) = true := e
    rw [e, Bool.true_and] at q
    exact q
  · have e : decide (-1000000000000000000000000000000 ≤ i) = false := Bool.eq_false_iff.mpr e
    rw [e, Bool.false_and] at q
    exact q
def sp_check_name (K : PySem.W.Frag) : Sp := fun vs H Q E => ∃ z : Str, vs = [.str z] ∧ z.length ≤ 1000 ∧ Asc z ∧ (if isName z = true then ∀ H', Same H H' → Q .non H' else BadN K H z E)
theorem len_check_name {vs : List V} {H : Hp} {Q : VK} {E : XK} (h : sp_check_name K vs H Q E) : vs.length = 1 := by
  obtain ⟨_, rfl, _⟩ := h
  rfl
theorem ok_check_name {f : Addr} {fd : FuncData} {f_is_name : Addr} {fd_is_name : FuncData} {f_BadName : Addr} {fd_BadName : FuncData} (F : Fun K "check_name" "check_name" s_check_name f fd) (T : Gs K mg t_BOUND t_LETTERS t_LONGEST_NAME a_RESERVED a_BadName a_BadNumber a_Change a_ElseputError a_TooLarge a_UnknownField a_UnknownKey a_UnknownName a_UnknownShape) (c_is_name : Cal P w K mg base CX0 1 "is_name" f_is_name fd_is_name ["text"] (sp_is_name K)) (c_BadName : CalE P w K mg base 1 "BadName" a_BadName f_BadName fd_BadName ["self", "name"] okx_BadName fs_BadName ["name"]) : FnOk P w K mg base (L2.CX P w) 3 f fd ["text"] (sp_check_name K) := by
  refine F.okX sc_check_name (fun vs H Q E h => len_check_name h) (fun cdv A outer s H vs Q E hr h => ?_)
  obtain ⟨z, rfl, h0, h1, q⟩ := h
  refine ⟨_, (pss_one (ps_if (pt_not (pt_t K (pe_call c_is_name.G (hr.mono (by first | decide | omega)) rfl c_is_name.m c_is_name.kp c_is_name.b .nil pass0 (pa_cons (v_ 0) pa_nil)))) (pss_one (ps_raise rfl (takes_of rfl rfl rfl rfl) (pmk_oex c_BadName.X.oex c_BadName.X.iC c_BadName.X.tI c_BadName.G (hr.mono (by first | decide | omega)) c_BadName.b .nil pass0 rfl c_BadName.m (pa_cons (v_ 0) pa_nil)))) pss_nil)), ?_⟩
  refine ⟨z, rfl, h0, fun H' s => ?_⟩
  refine ite2 (fun e => ?_) (fun e => ?_)
  · have e : ¬ isName z = true := by
      have e : (!isName z) = true := e
      rw [Bool.not_eq_true'] at e
      rw [e]
      decide
    rw [if_neg e] at q
    refine mk_spE (by show 1 ≤ 1000; decide) ⟨z, rfl, h0, h1⟩ (fun d nd => ?_)
    exact q a_BadName d _ T.n_BadName (s.trans (same_new nd)) (Same.free s nd) upd_same
  · have e : isName z = true := by
      have e : ¬ (!isName z) = true := e
      rw [Bool.not_eq_true, Bool.not_eq_false'] at e
      exact e
    rw [if_pos e] at q
    exact q H' s
def sp_check_number (K : PySem.W.Frag) : Sp := fun vs H Q E => ∃ i : Int, vs = [.int i] ∧ i.natAbs < 2 ^ 200 ∧ (if inB i = true then Q .non H else BadI K H i E)
theorem len_check_number {vs : List V} {H : Hp} {Q : VK} {E : XK} (h : sp_check_number K vs H Q E) : vs.length = 1 := by
  obtain ⟨_, rfl, _⟩ := h
  rfl
theorem ok_check_number {f : Addr} {fd : FuncData} {f_in_bound : Addr} {fd_in_bound : FuncData} {f_BadNumber : Addr} {fd_BadNumber : FuncData} (F : Fun K "check_number" "check_number" s_check_number f fd) (T : Gs K mg t_BOUND t_LETTERS t_LONGEST_NAME a_RESERVED a_BadName a_BadNumber a_Change a_ElseputError a_TooLarge a_UnknownField a_UnknownKey a_UnknownName a_UnknownShape) (c_in_bound : Cal P w K mg base CX0 1 "in_bound" f_in_bound fd_in_bound ["value"] (sp_in_bound K)) (c_BadNumber : CalE P w K mg base 1 "BadNumber" a_BadNumber f_BadNumber fd_BadNumber ["self", "value"] okx_BadNumber fs_BadNumber ["value"]) : FnOk P w K mg base (L2.CX P w) 3 f fd ["value"] (sp_check_number K) := by
  refine F.okX sc_check_number (fun vs H Q E h => len_check_number h) (fun cdv A outer s H vs Q E hr h => ?_)
  obtain ⟨i, rfl, h0, q⟩ := h
  refine ⟨_, (pss_one (ps_if (pt_not (pt_t K (pe_call c_in_bound.G (hr.mono (by first | decide | omega)) rfl c_in_bound.m c_in_bound.kp c_in_bound.b .nil pass0 (pa_cons (v_ 0) pa_nil)))) (pss_one (ps_raise rfl (takes_of rfl rfl rfl rfl) (pmk_oex c_BadNumber.X.oex c_BadNumber.X.iC c_BadNumber.X.tI c_BadNumber.G (hr.mono (by first | decide | omega)) c_BadNumber.b .nil pass0 rfl c_BadNumber.m (pa_cons (v_ 0) pa_nil)))) pss_nil)), ?_⟩
  refine ⟨i, rfl, ?_⟩
  refine ite2 (fun e => ?_) (fun e => ?_)
  · have e : ¬ inB i = true := by
      have e : (!inB i) = true := e
      rw [Bool.not_eq_true'] at e
      rw [e]
      decide
    rw [if_neg e] at q
    refine mk_spE (by show 1 ≤ 1000; decide) ⟨i, rfl, h0⟩ (fun d nd => ?_)
    exact q a_BadNumber d _ T.n_BadNumber (same_new nd) nd upd_same
  · have e : inB i = true := by
      have e : ¬ (!inB i) = true := e
      rw [Bool.not_eq_true, Bool.not_eq_false'] at e
      exact e
    rw [if_pos e] at q
    exact q
/-! ### changes -/
structure Rw where
  f : Str
  add : Bool
  n : Int
def deed (b : Bool) : Str := if b then "add" else "set"
def RowAt (H : Hp) (r : Addr) (x : Rw) : Prop := H r = some (.tup [.str x.f, .str (deed x.add), .int x.n])
def RowsL (H : Hp) : List Addr → List Rw → Prop
  | [], [] => True
  | r :: rs, x :: xs => RowAt H r x ∧ RowsL H rs xs
  | _, _ => False
theorem RowsL.same {H H' : Hp} (s : Same H H') : ∀ {rs : List Addr} {xs : List Rw}, RowsL H rs xs → RowsL H' rs xs
  | [], [], _ => trivial
  | _ :: _, _ :: _, ⟨h, t⟩ => ⟨s _ _ h, RowsL.same s t⟩
theorem RowsL.len {H : Hp} : ∀ {rs : List Addr} {xs : List Rw}, RowsL H rs xs → rs.length = xs.length
  | [], [], _ => rfl
  | _ :: _, _ :: _, ⟨_, h⟩ => by rw [List.length_cons, List.length_cons, h.len]
theorem RowsL.app {H : Hp} : ∀ {rs ts : List Addr} {xs ys : List Rw}, RowsL H rs xs → RowsL H ts ys → RowsL H (rs ++ ts) (xs ++ ys)
  | [], _, [], _, _, h => h
  | _ :: _, _, _ :: _, _, ⟨h1, h⟩, h2 => ⟨h1, RowsL.app h h2⟩
theorem RowsL.get {H : Hp} : ∀ {rs : List Addr} {xs : List Rw}, RowsL H rs xs → ∀ {i : Nat} {r : Addr}, rs[i]? = some r → ∃ x, xs[i]? = some x ∧ RowAt H r x
  | _ :: _, x :: _, ⟨h, t⟩, 0, r, e => by simp at e; subst e; exact ⟨x, rfl, h⟩
  | _ :: _, _ :: _, ⟨_, t⟩, i + 1, r, e => by simpa using t.get (i := i) (r := r) (by simpa using e)
/-- the change whose assignments are xs -/
def ChAt (K : PySem.W.Frag) (H : Hp) (a : Addr) (xs : List Rw) : Prop := ∃ (C dx t : Addr) (rs : List Addr), PySem.W.nsIn K mainGlobals "Change" = some (some (.ref C)) ∧ H a = some (.ins C dx [("assignments", .ref t)]) ∧ H t = some (.tup (rs.map V.ref)) ∧ RowsL H rs xs
theorem ChAt.same {H H' : Hp} {a : Addr} {xs : List Rw} (h : ChAt K H a xs) (s : Same H H') : ChAt K H' a xs := by
  obtain ⟨C, dx, t, rs, h1, h2, h3, h4⟩ := h
  exact ⟨C, dx, t, rs, h1, s _ _ h2, s _ _ h3, h4.same s⟩
def sp_Change___init__ (K : PySem.W.Frag) : Sp := fun vs H Q _ => ∃ (x p C dx : Addr) (xs : List V), vs = [.ref x, .ref p] ∧ PySem.W.nsIn K mainGlobals "Change" = some (some (.ref C)) ∧ H x = some (.ins C dx []) ∧ (H p = some (.lst xs) ∨ H p = some (.tup xs)) ∧
  ∀ (H' : Hp) (t : Addr), (∀ b o, b ≠ x → H b = some o → H' b = some o) → H' x = some (.ins C dx [("assignments", .ref t)]) → H' t = some (.tup xs) → Q .non H'
theorem len_Change___init__ {vs : List V} {H : Hp} {Q : VK} {E : XK} (h : sp_Change___init__ K vs H Q E) : vs.length = 2 := by
  obtain ⟨_, _, _, _, _, rfl, _⟩ := h
  rfl
theorem ok_Change___init__ {f : Addr} {fd : FuncData} (F : Fun K "__init__" "Change.__init__" s_Change___init__ f fd) (T : Gs K mg t_BOUND t_LETTERS t_LONGEST_NAME a_RESERVED a_BadName a_BadNumber a_Change a_ElseputError a_TooLarge a_UnknownField a_UnknownKey a_UnknownName a_UnknownShape) : FnOk P w K mg base CX0 1 f fd ["self", "assignments"] (sp_Change___init__ K) := by
  refine F.ok sc_Change___init__ (fun vs H Q E h => len_Change___init__ h) (fun cdv A outer s H vs Q E hr h => ?_)
  obtain ⟨x, p, C, dx, xs, rfl, hC, hx, hp, q⟩ := h
  cases hC.symm.trans T.n_Change
  refine ⟨_, (pss_one (ps_fld (v_ 0) (pe_callTy (tupleK K) (by rfl) T.z_tuple (by decide +kernel) (pa_cons (v_ 1) pa_nil)) (by rfl))), ?_⟩
  rcases hp with hp | hp
  · refine ⟨p, xs, rfl, .inl ⟨SqL.of hp, fun l nl => ?_⟩⟩
    have lx : x ≠ l := ne_of_none hx nl
    refine ⟨x, a_Change, dx, [], rfl, same_new nl _ _ hx, T.cl_Change, T.na_Change_assignments, by decide, ?_⟩
    exact q _ l (fun b o nb hb => by rw [upd_ne nb]; exact same_new nl _ _ hb) upd_same (by rw [upd_ne lx.symm, upd_same])
  · refine ⟨p, xs, rfl, .inr ⟨SqT.of hp, ?_⟩⟩
    have lx : p ≠ x := fun e => by rw [e, hx] at hp; cases hp
    refine ⟨x, a_Change, dx, [], rfl, hx, T.cl_Change, T.na_Change_assignments, by decide, ?_⟩
    exact q _ p (fun b o nb hb => by rw [upd_ne nb]; exact hb) upd_same (by rw [upd_ne lx]; exact hp)
/-- what a made change is -/
def spMade (K : PySem.W.Frag) (H : Hp) (xs : List Rw) (Q : VK) : Prop := ∀ (H' : Hp) (a : Addr), Same H H' → H a = none → ChAt K H' a xs → Q (.ref a) H'
theorem made {K : PySem.W.Frag} {H H1 : Hp} {C p : Addr} {rs : List Addr} {xs : List Rw} {Q : VK} {E : XK} (hC : PySem.W.nsIn K mainGlobals "Change" = some (some (.ref C))) (s : Same H H1) (hp : H1 p = some (.lst (rs.map V.ref)) ∨ H1 p = some (.tup (rs.map V.ref))) (hr : RowsL H1 rs xs) (q : spMade K H xs Q) :
    ∀ x dx, H1 x = none → H1 dx = none → dx ≠ x → sp_Change___init__ K (.ref x :: ([.ref p] ++ [])) (upd (upd H1 dx (.own x)) x (.ins C dx [])) (fun v H2 => v = .non ∧ Q (.ref x) H2) E := by
  intro x dx nx nd ne
  have sm : Same H1 (upd (upd H1 dx (.own x)) x (.ins C dx [])) := fun b o hb => by
    rw [upd_ne (ne_of_none hb nx), upd_ne (ne_of_none hb nd)]
    exact hb
  refine ⟨x, p, C, dx, rs.map V.ref, rfl, hC, upd_same, hp.imp (sm _ _) (sm _ _), fun H' t k e1 e2 => ⟨rfl, ?_⟩⟩
  have s2 : Same H1 H' := fun b o hb => k b o (ne_of_none hb nx) (sm _ _ hb)
  exact q H' x (s.trans s2) (Same.free s nx) ⟨C, dx, t, rs, hC, e1, e2, hr.same s2⟩
def sp_Change_none (K : PySem.W.Frag) : Sp := fun vs H Q _ => vs = [] ∧ spMade K H [] Q
theorem len_Change_none {vs : List V} {H : Hp} {Q : VK} {E : XK} (h : sp_Change_none K vs H Q E) : vs.length = 0 := by
  obtain ⟨rfl, _⟩ := h
  rfl
theorem ok_Change_none {f : Addr} {fd : FuncData} {f_Change___init__ : Addr} {fd_Change___init__ : FuncData} (F : Fun K "none" "Change.none" s_Change_none f fd) (T : Gs K mg t_BOUND t_LETTERS t_LONGEST_NAME a_RESERVED a_BadName a_BadNumber a_Change a_ElseputError a_TooLarge a_UnknownField a_UnknownKey a_UnknownName a_UnknownShape) (c_Change___init__ : CalI P w K mg base CX0 1 "Change" a_Change f_Change___init__ fd_Change___init__ ["self", "assignments"] (sp_Change___init__ K)) : FnOk P w K mg base CX0 3 f fd [] (sp_Change_none K) := by
  refine F.ok sc_Change_none (fun vs H Q E h => len_Change_none h) (fun cdv A outer s H vs Q E hr h => ?_)
  obtain ⟨rfl, q⟩ := h
  refine ⟨_, (pss_one (ps_ret (pe_make c_Change___init__.mkc c_Change___init__.G (hr.mono (by first | decide | omega)) rfl c_Change___init__.m c_Change___init__.b .nil pass0 (pa_cons (pe_tup pa_nil) pa_nil)))), ?_⟩
  refine ⟨Nat.zero_le _, fun p np => ?_⟩
  exact made (rs := []) (xs := []) T.n_Change (same_new np) (.inr upd_same) trivial q
def sp_Change_adding (K : PySem.W.Frag) : Sp := fun vs H Q E => ∃ (z : Str) (i : Int), vs = [.str z, .int i] ∧ z.length ≤ 1000 ∧ Asc z ∧ i.natAbs < 2 ^ 200 ∧ (if isName z = true then (if inB i = true then spMade K H [⟨z, true, i⟩] Q else BadI K H i E) else BadN K H z E)
theorem len_Change_adding {vs : List V} {H : Hp} {Q : VK} {E : XK} (h : sp_Change_adding K vs H Q E) : vs.length = 2 := by
  obtain ⟨_, _, rfl, _⟩ := h
  rfl
theorem ok_Change_adding {f : Addr} {fd : FuncData} {f_check_name : Addr} {fd_check_name : FuncData} {f_check_number : Addr} {fd_check_number : FuncData} {f_Change___init__ : Addr} {fd_Change___init__ : FuncData} (F : Fun K "adding" "Change.adding" s_Change_adding f fd) (T : Gs K mg t_BOUND t_LETTERS t_LONGEST_NAME a_RESERVED a_BadName a_BadNumber a_Change a_ElseputError a_TooLarge a_UnknownField a_UnknownKey a_UnknownName a_UnknownShape) (c_check_name : Cal P w K mg base (L2.CX P w) 3 "check_name" f_check_name fd_check_name ["text"] (sp_check_name K)) (c_check_number : Cal P w K mg base (L2.CX P w) 3 "check_number" f_check_number fd_check_number ["value"] (sp_check_number K)) (c_Change___init__ : CalI P w K mg base CX0 1 "Change" a_Change f_Change___init__ fd_Change___init__ ["self", "assignments"] (sp_Change___init__ K)) : FnOk P w K mg base (L2.CX P w) 4 f fd ["field", "number"] (sp_Change_adding K) := by
  refine F.okX sc_Change_adding (fun vs H Q E h => len_Change_adding h) (fun cdv A outer s H vs Q E hr h => ?_)
  obtain ⟨z, i, rfl, hz, ha, hi, q⟩ := h
  refine ⟨_, (pss_cons (ps_expr (pe_call c_check_name.G (hr.mono (by first | decide | omega)) rfl c_check_name.m c_check_name.kp c_check_name.b .nil (passes_call (takes_of rfl rfl rfl rfl) (fun _ _ _ _ h => h)) (pa_cons (v_ 0) pa_nil))) (pss_cons (ps_expr (pe_call c_check_number.G (hr.mono (by first | decide | omega)) rfl c_check_number.m c_check_number.kp c_check_number.b .nil (passes_call (takes_of rfl rfl rfl rfl) (fun _ _ _ _ h => h)) (pa_cons (v_ 1) pa_nil))) (pss_one (ps_ret (pe_make c_Change___init__.mkc c_Change___init__.G (hr.mono (by first | decide | omega)) rfl c_Change___init__.m c_Change___init__.b .nil pass0 (pa_cons (pe_tup (pa_cons (pe_tup (pa_cons (v_ 0) (pa_cons pe_str (pa_cons (v_ 1) pa_nil)))) pa_nil)) pa_nil)))))), ?_⟩
  refine ⟨z, rfl, hz, ha, ?_⟩
  by_cases hn : isName z = true
  · rw [if_pos hn] at q ⊢
    intro H1 s1
    refine ⟨i, rfl, hi, ?_⟩
    by_cases hb : inB i = true
    · rw [if_pos hb] at q ⊢
      refine ⟨(by show 3 ≤ sizeLine; decide), fun r nr => ?_⟩
      refine ⟨(by show 1 ≤ sizeLine; decide), fun p np => ?_⟩
      exact made (rs := [r]) (xs := [⟨z, true, i⟩]) T.n_Change ((s1.trans (same_new nr)).trans (same_new np)) (.inr upd_same) ⟨same_new np _ _ upd_same, trivial⟩ q
    · rw [if_neg hb] at q ⊢
      exact q.same s1
  · rw [if_neg hn] at q ⊢
    exact q
def sp_Change_setting (K : PySem.W.Frag) : Sp := fun vs H Q E => ∃ (z : Str) (i : Int), vs = [.str z, .int i] ∧ z.length ≤ 1000 ∧ Asc z ∧ i.natAbs < 2 ^ 200 ∧ (if isName z = true then (if inB i = true then spMade K H [⟨z, false, i⟩] Q else BadI K H i E) else BadN K H z E)
theorem len_Change_setting {vs : List V} {H : Hp} {Q : VK} {E : XK} (h : sp_Change_setting K vs H Q E) : vs.length = 2 := by
  obtain ⟨_, _, rfl, _⟩ := h
  rfl
theorem ok_Change_setting {f : Addr} {fd : FuncData} {f_check_name : Addr} {fd_check_name : FuncData} {f_check_number : Addr} {fd_check_number : FuncData} {f_Change___init__ : Addr} {fd_Change___init__ : FuncData} (F : Fun K "setting" "Change.setting" s_Change_setting f fd) (T : Gs K mg t_BOUND t_LETTERS t_LONGEST_NAME a_RESERVED a_BadName a_BadNumber a_Change a_ElseputError a_TooLarge a_UnknownField a_UnknownKey a_UnknownName a_UnknownShape) (c_check_name : Cal P w K mg base (L2.CX P w) 3 "check_name" f_check_name fd_check_name ["text"] (sp_check_name K)) (c_check_number : Cal P w K mg base (L2.CX P w) 3 "check_number" f_check_number fd_check_number ["value"] (sp_check_number K)) (c_Change___init__ : CalI P w K mg base CX0 1 "Change" a_Change f_Change___init__ fd_Change___init__ ["self", "assignments"] (sp_Change___init__ K)) : FnOk P w K mg base (L2.CX P w) 4 f fd ["field", "number"] (sp_Change_setting K) := by
  refine F.okX sc_Change_setting (fun vs H Q E h => len_Change_setting h) (fun cdv A outer s H vs Q E hr h => ?_)
  obtain ⟨z, i, rfl, hz, ha, hi, q⟩ := h
  refine ⟨_, (pss_cons (ps_expr (pe_call c_check_name.G (hr.mono (by first | decide | omega)) rfl c_check_name.m c_check_name.kp c_check_name.b .nil (passes_call (takes_of rfl rfl rfl rfl) (fun _ _ _ _ h => h)) (pa_cons (v_ 0) pa_nil))) (pss_cons (ps_expr (pe_call c_check_number.G (hr.mono (by first | decide | omega)) rfl c_check_number.m c_check_number.kp c_check_number.b .nil (passes_call (takes_of rfl rfl rfl rfl) (fun _ _ _ _ h => h)) (pa_cons (v_ 1) pa_nil))) (pss_one (ps_ret (pe_make c_Change___init__.mkc c_Change___init__.G (hr.mono (by first | decide | omega)) rfl c_Change___init__.m c_Change___init__.b .nil pass0 (pa_cons (pe_tup (pa_cons (pe_tup (pa_cons (v_ 0) (pa_cons pe_str (pa_cons (v_ 1) pa_nil)))) pa_nil)) pa_nil)))))), ?_⟩
  refine ⟨z, rfl, hz, ha, ?_⟩
  by_cases hn : isName z = true
  · rw [if_pos hn] at q ⊢
    intro H1 s1
    refine ⟨i, rfl, hi, ?_⟩
    by_cases hb : inB i = true
    · rw [if_pos hb] at q ⊢
      refine ⟨(by show 3 ≤ sizeLine; decide), fun r nr => ?_⟩
      refine ⟨(by show 1 ≤ sizeLine; decide), fun p np => ?_⟩
      exact made (rs := [r]) (xs := [⟨z, false, i⟩]) T.n_Change ((s1.trans (same_new nr)).trans (same_new np)) (.inr upd_same) ⟨same_new np _ _ upd_same, trivial⟩ q
    · rw [if_neg hb] at q ⊢
      exact q.same s1
  · rw [if_neg hn] at q ⊢
    exact q
/-! ### the joining -/
def followedR (x : Rw) : List Rw → Rw
  | [] => x
  | y :: ys => if y.f = x.f then (if y.add = false then ⟨x.f, false, y.n⟩ else ⟨x.f, x.add, x.n + y.n⟩) else followedR x ys
def sp_followed (K : PySem.W.Frag) : Sp := fun vs H Q _ => ∃ (r p : Addr) (x : Rw) (rs : List Addr) (ys : List Rw), vs = [.ref r, .ref p] ∧ RowAt H r x ∧ H p = some (.tup (rs.map V.ref)) ∧ RowsL H rs ys ∧ ys.length ≤ 10 ∧ ∀ (H' : Hp) (r' : Addr), Same H H' → RowAt H' r' (followedR x ys) → Q (.ref r') H'
theorem len_followed {vs : List V} {H : Hp} {Q : VK} {E : XK} (h : sp_followed K vs H Q E) : vs.length = 2 := by
  obtain ⟨_, _, _, _, _, rfl, _⟩ := h
  rfl
theorem deed_add {b : Bool} : decide (deed b = "add") = b := by cases b <;> decide +kernel
theorem deed_set {b : Bool} : decide (deed b = "set") = !b := by cases b <;> decide +kernel
theorem ok_followed {f : Addr} {fd : FuncData} (F : Fun K "followed" "followed" s_followed f fd) (T : Gs K mg t_BOUND t_LETTERS t_LONGEST_NAME a_RESERVED a_BadName a_BadNumber a_Change a_ElseputError a_TooLarge a_UnknownField a_UnknownKey a_UnknownName a_UnknownShape) : FnOk P w K mg base CX0 1 f fd ["assignment", "later"] (sp_followed K) := by
  refine F.ok sc_followed (fun vs H Q E h => len_followed h) (fun cdv A outer s H vs Q E hr h => ?_)
  obtain ⟨r, p, x, rs, ys, rfl, hx, hp, hrs, hl, q⟩ := h
  refine ⟨_, (pss_cons (ps_asg (v_ 0) (pg_tup (by rfl) (pgs_cons (pg_name (i := 2) sc_followed.nd rfl (.inl rfl)) (pgs_cons (pg_name (i := 3) sc_followed.nd rfl (.inl rfl)) (pgs_cons (pg_name (i := 4) sc_followed.nd rfl (.inl rfl)) pgs_nil))))) (pss_cons (ps_for PassesOwn.never rfl (pi_tup (v_ 1)) (pg_tup (by rfl) (pgs_cons (pg_name (i := 5) sc_followed.nd rfl (.inl rfl)) (pgs_cons (pg_name (i := 6) sc_followed.nd rfl (.inl rfl)) (pgs_cons (pg_name (i := 7) sc_followed.nd rfl (.inl rfl)) pgs_nil)))) (pss_cons (ps_if (PW.pt (pw_and (pt_c (eqK K hr.units) (v_ 5) (v_ 2)) (pw_and1 (pt_c (eqK K hr.units) (v_ 6) pe_str)))) (pss_one (ps_ret (pe_tup (pa_cons (v_ 2) (pa_cons pe_str (pa_cons (v_ 7) pa_nil)))))) pss_nil) (pss_one (ps_if (pt_c (eqK K hr.units) (v_ 5) (v_ 2)) (pss_one (ps_ret (pe_tup (pa_cons (v_ 2) (pa_cons (v_ 3) (pa_cons (pe_op (addK K) (v_ 4) (v_ 7)) pa_nil)))))) pss_nil)))) (pss_one (ps_ret (v_ 0))))), ?_⟩
  refine ⟨r, _, rfl, .inl (.inl hx), rfl, _, _, rfl, _, _, rfl, _, _, rfl, rfl, ?_⟩
  refine ⟨p, rfl, ⟨_, .inl (.inl hp)⟩, ?_⟩
  refine for_tup (K := K) (a := p) (xs := rs.map V.ref) (fun i σ' H' => H' = H ∧ (∃ y z w, σ' = [some (.ref r), some (.ref p), some (.str x.f), some (.str (deed x.add)), some (.int x.n), y, z, w]) ∧ followedR x ys = followedR x (ys.drop i)) ⟨rfl, ⟨_, _, _, rfl⟩, rfl⟩ (fun i σ' H' _ h => by rw [h.1]; exact .inl (.inl hp)) ?_ ?_
  · rintro i v σ' H' hi ⟨rfl, ⟨y, z, w, rfl⟩, hf⟩
    rw [List.getElem?_map] at hi
    obtain ⟨r2, hr2, rfl⟩ := Option.map_eq_some_iff.mp hi
    obtain ⟨y2, hy2, ha2⟩ := hrs.get hr2
    have hd : ys.drop i = y2 :: ys.drop (i + 1) := by
      obtain ⟨h1, h2⟩ := List.getElem?_eq_some_iff.mp hy2
      rw [List.drop_eq_getElem_cons h1, h2]
    rw [hd] at hf
    refine ⟨r2, _, rfl, .inl (.inl ha2), rfl, _, _, rfl, _, _, rfl, _, _, rfl, rfl, ?_⟩
    refine ite2 (fun e => ?_) (fun e => ?_)
    · have e : y2.f = x.f := of_decide_eq_true e
      refine ite2 (fun e2 => ?_) (fun e2 => ?_)
      · have e2 : y2.add = false := by simpa using deed_set.symm.trans e2
        refine ⟨(by show 3 ≤ sizeLine; decide), fun t nt => ?_⟩
        refine q _ t (same_new nt) ?_
        rw [hf, followedR, if_pos e, if_pos e2]
        exact upd_same
      · have e2 : y2.add = true := by
          have := deed_set.symm.trans (Bool.eq_false_iff.mpr e2)
          simpa using this
        refine ite2 (fun e3 => ?_) (fun e3 => absurd (decide_eq_true e) e3)
        refine ⟨(by show 3 ≤ sizeLine; decide), fun t nt => ?_⟩
        refine q _ t (same_new nt) ?_
        rw [hf, followedR, if_pos e, if_neg (by rw [e2]; decide)]
        exact upd_same
    · have e : ¬ y2.f = x.f := of_decide_eq_false (Bool.eq_false_iff.mpr e)
      refine ite2 (fun e3 => nomatch e3) (fun _ => ?_)
      refine ite2 (fun e3 => absurd (of_decide_eq_true e3) e) (fun _ => ?_)
      refine ⟨rfl, ⟨_, _, _, rfl⟩, ?_⟩
      rw [hf, followedR, if_neg e]
  · rintro σ' H' ⟨rfl, ⟨y, z, w, rfl⟩, hf⟩
    refine q H' r (Same.refl H') ?_
    rw [hf, List.drop_of_length_le (by rw [List.length_map, hrs.len]; exact Nat.le_refl _)]
    exact hx
end
section
variable {P : Program} {w : World} {K : PySem.W.Frag} {mg : Str → Option Value} {base : Heap}
variable {t_BOUND t_LETTERS t_LONGEST_NAME : Tok} {a_RESERVED a_BadName a_BadNumber a_Change a_ElseputError a_TooLarge a_UnknownField a_UnknownKey a_UnknownName a_UnknownShape : Addr}
def okx_TooLarge (ws : List V) : Prop := ∃ l : Int, ws = [.int l] ∧ 0 ≤ l ∧ l ≤ 100000
def fs_TooLarge (ws : List V) : List (Str × V) := match ws with | [l] => [("most", l)] | _ => []
theorem log_small {i : Int} (h0 : 0 ≤ i) (h1 : i ≤ 100000) : i.natAbs.log2 < 1920 := by
  by_cases hz : i.natAbs = 0
  · rw [hz]
    decide
  · refine (Nat.log2_lt hz).mpr ?_
    have : i.natAbs ≤ 100000 := by omega
    exact Nat.lt_of_le_of_lt this (Nat.lt_of_lt_of_le (show 100000 < 2 ^ 17 by decide) (Nat.pow_le_pow_right (by decide) (by decide)))
theorem text_small {i : Int} (h0 : 0 ≤ i) (h1 : i ≤ 100000) : (Str.ofString (toString i)).length ≤ 6 := toString_length_le h0 (by decide) (by omega)
theorem ok_TooLarge {C f cc cda : Addr} {doc pm ct oc ccl cl : Value} {od cdd cld : Option Addr} {osl ccs csl : Array (Option Value)} {vs0 : Array Value} {file : Str} {tf : Tok} {cdD : ClassData}
    (X : ExK K C f ["most"]) (lk : K.lookup f = some ⟨oc, od, .func (PySem.W.fnX "__init__" "TooLarge.__init__" (defArgs s_TooLarge) (defBody s_TooLarge) (defScope s_TooLarge) [("__class__", cc)] .none .none doc pm none (.ref cda) ct), osl⟩)
    (hcd : PySem.W.codeIn K (.ref cda) "TooLarge.__init__" = true) (hcode : K.lookup cda = some ⟨ccl, cdd, .fields vs0, ccs⟩) (hvs : vs0[2]? = some (.str file tf)) (hfile : ((P.main.file : Str) == file) = true)
    (hcell : K.lookup cc = some ⟨cl, cld, .cell (some (.ref C)), csl⟩) (hD : PySem.W.clsIn K C = some cdD) (hsuper : mg "super" = none) (hop : PySem.W.nsIn K PySem.cStatics "thirdparty.any" = some none) (htop : (P.main.scope.names.lookup ("super" : Str)).isSome = false) :
    FnOk P w K mg base CX0 1 f (PySem.W.fnX "__init__" "TooLarge.__init__" (defArgs s_TooLarge) (defBody s_TooLarge) (defScope s_TooLarge) [("__class__", cc)] .none .none doc pm none (.ref cda) ct) ["self", "most"] (spE C okx_TooLarge fs_TooLarge) := by
  refine fn_super lk hcd sc_TooLarge hcode hvs hfile hcell hD hsuper hop rfl rfl rfl htop rfl (fun vs H Q E h => len_spE (n := 1) (fun ws h => by obtain ⟨_, rfl, _⟩ := h; rfl) h) (fun A outer s H vs Q E hr h => ?_) (fun _ => rfl) (fun _ => rfl) (fun _ => rfl)
  obtain ⟨a, ws, rfl, ⟨l, rfl, l0, l1⟩, ea, q⟩ := h
  refine ⟨a, C, _, _, rfl, ea, X.oex, X.mro, X.sup, X.subV, pa_cons (pe_joined (.cons pe_str (.cons (pe_fmt (v_ 1)) .nil))) pa_nil, pss_one (ps_ost (v_ 0) (v_ 1)), ?_⟩
  have tl := text_small l0 l1
  have z0 : Str.empty.length = 0 := rfl
  have z1 : (Str.ofString "more than ").length = 10 := rfl
  refine ⟨_, rfl, line_of (by rw [len_add]; omega), .inr ⟨_, rfl, log_small l0 l1, _, rfl, line_of (by rw [len_add, len_add]; omega), ?_⟩⟩
  refine ⟨ea, (by show 1 ≤ 1000; decide), ?_⟩
  exact ⟨a, C, rfl, X.oex, X.no _ (by simp), .inl ⟨ea, ost1 ea fun dx H' n ne e1 e2 hh => q dx _ n ne e1 e2 hh⟩⟩

theorem str_eq {a b : Str} : a = b ↔ a.cps.toList = b.cps.toList := by
  constructor
  · rintro rfl; rfl
  · intro h
    cases a
    cases b
    congr
    exact Array.toList_inj.mp h
theorem inV_str {z : Str} : ∀ {xs : List Str}, inV (.str z) (xs.map V.str) = decide (z ∈ xs)
  | [] => rfl
  | a :: r => by
    have ih := inV_str (z := z) (xs := r)
    unfold inV at ih ⊢
    rw [List.map_cons, List.any_cons, ih]
    have : eqV (.str a) (.str z) = decide (z = a) := by
      show (a == z) = _
      rw [Bool.eq_iff_iff, beq_iff_eq, decide_eq_true_iff, eq_comm]
    rw [this, Bool.eq_iff_iff, Bool.or_eq_true, decide_eq_true_iff, decide_eq_true_iff, decide_eq_true_iff, List.mem_cons]
theorem flat_strs {xs : List Str} : (xs.map V.str).all flatV = true := by
  rw [List.all_map]
  exact List.all_eq_true.mpr fun _ _ => rfl
theorem take_snoc {α : Type} {xs : List α} {i : Nat} {x : α} (h : xs[i]? = some x) : xs.take (i + 1) = xs.take i ++ [x] := by
  rw [List.take_add_one, h]
  rfl
def sp_Change_assigned (K : PySem.W.Frag) : Sp := fun vs H Q _ => ∃ (a : Addr) (xs : List Rw), vs = [.ref a] ∧ ChAt K H a xs ∧ xs.length ≤ 20 ∧ ∀ (H' : Hp) (t : Addr), Same H H' → H' t = some (.tup ((xs.map (·.f)).map V.str)) → Q (.ref t) H'
theorem len_Change_assigned {vs : List V} {H : Hp} {Q : VK} {E : XK} (h : sp_Change_assigned K vs H Q E) : vs.length = 1 := by
  obtain ⟨_, _, rfl, _⟩ := h
  rfl
theorem ok_Change_assigned {f : Addr} {fd : FuncData} (F : Fun K "assigned" "Change.assigned" s_Change_assigned f fd) (T : Gs K mg t_BOUND t_LETTERS t_LONGEST_NAME a_RESERVED a_BadName a_BadNumber a_Change a_ElseputError a_TooLarge a_UnknownField a_UnknownKey a_UnknownName a_UnknownShape) : FnOk P w K mg base CX0 1 f fd ["self"] (sp_Change_assigned K) := by
  refine F.ok sc_Change_assigned (fun vs H Q E h => len_Change_assigned h) (fun cdv A outer s H vs Q E hr h => ?_)
  obtain ⟨a, xs, rfl, ⟨C, dx, t, rs, hC, ha, ht, hrs⟩, hl, q⟩ := h
  cases hC.symm.trans T.n_Change
  refine ⟨_, (pss_one (ps_ret (pe_callTy (tupleK K) (by rfl) T.z_tuple (by decide +kernel) (pa_cons (pe_lc (own := [("part", 1)]) (g := gName 1) (by rfl) sc_Change_assigned.nd (pi_tup (e_f K (v_ 0))) (blkOk_by (N := ["self", "part"]) (sc := defScope s_Change_assigned) (by decide +kernel)) (fun _ _ _ _ _ => pg_name (i := 1) sc_Change_assigned.nd rfl (Or.inl rfl)) (fun _ _ _ _ _ => pts_nil) (fun _ _ _ _ _ => (e_x K (v_ 1) pe_int))) pa_nil)))), ?_⟩
  refine ⟨a, a_Change, dx, _, _, rfl, ha, T.cl_Change, T.na_Change_assignments, rfl, t, rfl, ⟨_, SqT.of ht⟩, fun D nD => ?_⟩
  refine lc_it walk_tup (fun i H' => Same H H' ∧ H' D = some (.lst (((xs.take i).map (·.f)).map V.str))) ⟨same_new nD, upd_same⟩ (fun _ _ _ h => SqT.of (h.1 _ _ ht)) ?_ ?_
  · rintro i v H1 H2 hi ⟨sm, hD⟩ ⟨rfl, hv⟩
    rw [List.length_map] at hi
    obtain ⟨r, er⟩ : ∃ r, rs[i]? = some r := ⟨_, List.getElem?_eq_getElem hi⟩
    have hv : (rs.map V.ref)[i]? = some v := by
      first | exact hv | exact hv _ (SqT.of (sm _ _ ht))
    rw [List.getElem?_map, er] at hv
    cases hv
    obtain ⟨x, ex, hx⟩ := hrs.get er
    refine ⟨rfl, ?_⟩
    refine ⟨_, .inr (SqT.of (sm _ _ hx)), .str x.f, rfl, _, hD, line_lt (by rw [List.length_map, List.length_map, List.length_take]; omega), ?_, ?_⟩
    · intro b o hb
      rw [upd_ne (ne_of_none hb nD)]
      exact sm _ _ hb
    · rw [upd_same, take_snoc ex, List.map_append, List.map_append]
      rfl
  · rintro H1 ⟨sm, hD⟩
    rw [List.length_map, hrs.len, List.take_length] at hD
    refine ⟨D, _, rfl, .inl ⟨SqL.of hD, fun u nu => ?_⟩⟩
    exact q _ u (sm.trans (same_new nu)) upd_same
end
section
variable {P : Program} {w : World} {K : PySem.W.Frag} {mg : Str → Option Value} {base : Heap}
variable {t_BOUND t_LETTERS t_LONGEST_NAME : Tok} {a_RESERVED a_BadName a_BadNumber a_Change a_ElseputError a_TooLarge a_UnknownField a_UnknownKey a_UnknownName a_UnknownShape : Addr}
theorem RowsL.keep {H H' : Hp} (s : ∀ c z, H c = some (.tup z) → H' c = some (.tup z)) : ∀ {rs : List Addr} {xs : List Rw}, RowsL H rs xs → RowsL H' rs xs
  | [], [], _ => trivial
  | _ :: _, _ :: _, ⟨h, t⟩ => ⟨s _ _ h, RowsL.keep s t⟩
def joinedR (xs ys : List Rw) : List Rw := xs.map (fun x => followedR x ys) ++ ys.filter (fun y => !decide (y.f ∈ xs.map (·.f)))
def Joins (K : PySem.W.Frag) (H : Hp) (xs ys : List Rw) (Q : VK) (E : XK) : Prop := if (joinedR xs ys).length ≤ 3 then spMade K H (joinedR xs ys) Q else
  ∀ (C d : Addr) (H' : Hp), PySem.W.nsIn K mainGlobals "TooLarge" = some (some (.ref C)) → Same H H' → H d = none → H' d = some (.xd [("most", .int 3)]) → E (.ref C) (some d) H'
def sp_Change___rshift__ (K : PySem.W.Frag) : Sp := fun vs H Q E => ∃ (a b : Addr) (xs ys : List Rw), vs = [.ref a, .ref b] ∧ ChAt K H a xs ∧ ChAt K H b ys ∧ xs.length ≤ 10 ∧ ys.length ≤ 10 ∧ Joins K H xs ys Q E
theorem len_Change___rshift__ {vs : List V} {H : Hp} {Q : VK} {E : XK} (h : sp_Change___rshift__ K vs H Q E) : vs.length = 2 := by
  obtain ⟨_, _, _, _, rfl, _⟩ := h
  rfl
theorem ok_Change___rshift__ {f : Addr} {fd : FuncData} {f_followed : Addr} {fd_followed : FuncData} {f_Change___init__ : Addr} {fd_Change___init__ : FuncData} {f_Change_assigned : Addr} {fd_Change_assigned : FuncData} {p_Change_assigned : Addr} {f_TooLarge : Addr} {fd_TooLarge : FuncData} (F : Fun K "__rshift__" "Change.__rshift__" s_Change___rshift__ f fd) (T : Gs K mg t_BOUND t_LETTERS t_LONGEST_NAME a_RESERVED a_BadName a_BadNumber a_Change a_ElseputError a_TooLarge a_UnknownField a_UnknownKey a_UnknownName a_UnknownShape) (c_followed : Cal P w K mg base CX0 1 "followed" f_followed fd_followed ["assignment", "later"] (sp_followed K)) (c_Change___init__ : CalI P w K mg base CX0 1 "Change" a_Change f_Change___init__ fd_Change___init__ ["self", "assignments"] (sp_Change___init__ K)) (c_Change_assigned : CalP P w K mg base CX0 1 a_Change p_Change_assigned "assigned" f_Change_assigned fd_Change_assigned ["self"] (sp_Change_assigned K)) (c_TooLarge : CalE P w K mg base 1 "TooLarge" a_TooLarge f_TooLarge fd_TooLarge ["self", "most"] okx_TooLarge fs_TooLarge ["most"]) : FnOk P w K mg base (L2.CX P w) 3 f fd ["self", "other"] (sp_Change___rshift__ K) := by
  refine F.okX sc_Change___rshift__ (fun vs H Q E h => len_Change___rshift__ h) (fun cdv A outer s H vs Q E hr h => ?_)
  obtain ⟨a, b, xs, ys, rfl, hA, hB, lx, ly, q⟩ := h
  obtain ⟨C, dx, t, rs, hC, ha, ht, hrs⟩ := id hA
  obtain ⟨C2, dy, u, us, hC2, hb, hu, hus⟩ := id hB
  cases hC.symm.trans T.n_Change
  cases hC2.symm.trans T.n_Change
  refine ⟨_, (pss_cons (ps_setLc (i := 2) (own := [("part", 4)]) (g := gName 4) (by rfl) sc_Change___rshift__.nd rfl rfl (sw_true rfl rfl rfl (by decide +kernel)) (pi_tup (e_f K (v_ 0))) (blkOk_by (N := ["self", "other", "both", "new", "part"]) (sc := defScope s_Change___rshift__) (by decide +kernel)) (fun _ _ _ _ _ => pg_name (i := 4) sc_Change___rshift__.nd rfl (Or.inl rfl)) (fun _ _ _ _ _ => pts_nil) (fun _ _ _ _ _ => (pe_call c_followed.G (hr.mono (by first | decide | omega)) rfl c_followed.m c_followed.kp c_followed.b .nil pass0 (pa_cons (v_ 4) (pa_cons (e_f K (v_ 1)) pa_nil))))) (pss_cons (ps_setLc (i := 3) (own := [("part", 4)]) (g := gName 4) (by rfl) sc_Change___rshift__.nd rfl rfl (sw_true rfl rfl rfl (by decide +kernel)) (pi_tup (e_f K (v_ 1))) (blkOk_by (N := ["self", "other", "both", "new", "part"]) (sc := defScope s_Change___rshift__) (by decide +kernel)) (fun _ _ _ _ _ => pg_name (i := 4) sc_Change___rshift__.nd rfl (Or.inl rfl)) (fun _ _ _ _ _ => pts_one (pt_c (notInK K) (e_x K (v_ 4) pe_int) (pe_prop (v_ 0) c_Change_assigned.cl c_Change_assigned.pr c_Change_assigned.G (hr.mono (by first | decide | omega)) c_Change_assigned.b .nil pass0 (by rfl)))) (fun _ _ _ _ _ => (v_ 4))) (pss_cons (ps_if (pt_c op_gtM (pe_op (addK K) (pe_callB (lenK K) (by rfl) T.z_len PySem.boot_len (pa_cons (v_ 2) pa_nil)) (pe_callB (lenK K) (by rfl) T.z_len PySem.boot_len (pa_cons (v_ 3) pa_nil))) (e_cv K (pe_glob (v := .ref a_Change) rfl T.g_Change rfl))) (pss_one (ps_raise rfl (takes_of rfl rfl rfl rfl) (pmk_oex c_TooLarge.X.oex c_TooLarge.X.iC c_TooLarge.X.tI c_TooLarge.G (hr.mono (by first | decide | omega)) c_TooLarge.b .nil pass0 rfl c_TooLarge.m (pa_cons (e_cv K (pe_glob (v := .ref a_Change) rfl T.g_Change rfl)) pa_nil)))) pss_nil) (pss_one (ps_ret (pe_make c_Change___init__.mkc c_Change___init__.G (hr.mono (by first | decide | omega)) rfl c_Change___init__.m c_Change___init__.b .nil pass0 (pa_cons (pe_tup (StX.pa_star (v_ 2) (StX.pa_star (v_ 3) pa_nil))) pa_nil))))))), ?_⟩
  refine ⟨a, a_Change, dx, _, _, rfl, ha, T.cl_Change, T.na_Change_assignments, rfl, t, rfl, ⟨_, SqT.of ht⟩, fun D nD => ?_⟩
  refine lc_it walk_tup (fun i H' => Same H H' ∧ ∃ ts : List Addr, H' D = some (.lst (ts.map V.ref)) ∧ RowsL H' ts ((xs.take i).map (fun x => followedR x ys))) ⟨same_new nD, [], upd_same, trivial⟩ (fun _ _ _ h => SqT.of (h.1 _ _ ht)) ?_ ?_
  · rintro i v H1 H2 hi ⟨sm, ts, hD, hts⟩ ⟨rfl, hv⟩
    rw [List.length_map] at hi
    obtain ⟨r, er⟩ : ∃ r, rs[i]? = some r := ⟨_, List.getElem?_eq_getElem hi⟩
    have hv : (rs.map V.ref)[i]? = some v := by
      first | exact hv | exact hv _ (SqT.of (sm _ _ ht))
    rw [List.getElem?_map, er] at hv
    cases hv
    obtain ⟨x, ex, hx⟩ := hrs.get er
    refine ⟨rfl, ?_⟩
    refine ⟨b, a_Change, dy, _, _, rfl, sm _ _ hb, T.cl_Change, T.na_Change_assignments, rfl, r, u, x, us, ys, rfl, sm _ _ hx, sm _ _ hu, hus.same sm, ly, fun H3 r' s3 hr' => ?_⟩
    have tl : ts.length ≤ 10 := by
      rw [hts.len, List.length_map, List.length_take]
      omega
    refine ⟨_, s3 _ _ hD, line_lt (by rw [List.length_map]; omega), ?_, ts ++ [r'], by rw [upd_same, List.map_append]; rfl, ?_⟩
    · intro c o hc
      rw [upd_ne (ne_of_none hc nD)]
      exact s3 _ _ (sm _ _ hc)
    · rw [take_snoc ex, List.map_append]
      have keep : ∀ c z, H3 c = some (.tup z) → (upd H3 D (.lst (ts.map V.ref ++ [.ref r']))) c = some (.tup z) := fun c z hc => by
        rw [upd_ne (ne_of hc (s3 _ _ hD) (by intro e; cases e))]
        exact hc
      exact RowsL.app ((hts.same s3).keep keep) ⟨keep _ _ hr', trivial⟩
  · rintro H1 ⟨sm, ts, hD, hts⟩
    rw [List.length_map, hrs.len, List.take_length] at hts
    refine ⟨b, a_Change, dy, _, _, rfl, sm _ _ hb, T.cl_Change, T.na_Change_assignments, rfl, u, rfl, ⟨_, SqT.of (sm _ _ hu)⟩, fun D2 nD2 => ?_⟩
    refine lc_it walk_tup (fun i H' => Same H1 H' ∧ ∃ ts : List Addr, H' D2 = some (.lst (ts.map V.ref)) ∧ RowsL H' ts ((ys.take i).filter (fun y => !decide (y.f ∈ xs.map (·.f))))) ⟨same_new nD2, [], upd_same, trivial⟩ (fun _ _ _ h => SqT.of (h.1 _ _ (sm _ _ hu))) ?_ ?_
    · rintro i v H2 H2' hi ⟨sm2, ts2, hD2, hts2⟩ ⟨rfl, hv⟩
      rw [List.length_map] at hi
      obtain ⟨r, er⟩ : ∃ r, us[i]? = some r := ⟨_, List.getElem?_eq_getElem hi⟩
      have hv : (us.map V.ref)[i]? = some v := by
        first | exact hv | exact hv _ (SqT.of (sm2 _ _ (sm _ _ hu)))
      rw [List.getElem?_map, er] at hv
      cases hv
      obtain ⟨y, ey, hy⟩ := hus.get er
      have s02 := sm.trans sm2
      refine ⟨rfl, ?_⟩
      refine ⟨_, .inr (SqT.of (s02 _ _ hy)), .str y.f, rfl, a, dx, _, rfl, s02 _ _ ha, a, xs, rfl, hA.same s02, by omega, fun H3 t3 s3 ht3 => ?_⟩
      refine ⟨_, .inr (SqT.of ht3), rfl, flat_strs, ?_⟩
      have hf : (ys.take (i + 1)).filter (fun y => !decide (y.f ∈ xs.map (·.f))) = (ys.take i).filter (fun y => !decide (y.f ∈ xs.map (·.f))) ++ (if (!decide (y.f ∈ xs.map (·.f))) = true then [y] else []) := by
        rw [take_snoc ey, List.filter_append, List.filter_cons, List.filter_nil]
      refine ite2 (fun e => ?_) (fun e => ?_)
      · have e : (!decide (y.f ∈ xs.map (·.f))) = true := by rw [← inV_str]; exact e
        have tl : ts2.length ≤ 10 := by
          rw [hts2.len]
          have := List.length_filter_le (fun y : Rw => !decide (y.f ∈ xs.map (·.f))) (ys.take i)
          rw [List.length_take] at this
          omega
        have keep : ∀ c z, H3 c = some (.tup z) → (upd H3 D2 (.lst (ts2.map V.ref ++ [.ref r]))) c = some (.tup z) := fun c z hc => by
          rw [upd_ne (ne_of hc (s3 _ _ hD2) (by intro e; cases e))]
          exact hc
        refine ⟨_, s3 _ _ hD2, line_lt (by rw [List.length_map]; omega), ?_, ts2 ++ [r], by rw [upd_same, List.map_append]; rfl, ?_⟩
        · intro c o hc
          rw [upd_ne (ne_of_none hc nD2)]
          exact s3 _ _ (sm2 _ _ hc)
        · rw [hf, if_pos e]
          exact RowsL.app ((hts2.same s3).keep keep) ⟨keep _ _ (s3 _ _ (s02 _ _ hy)), trivial⟩
      · have e : ¬ (!decide (y.f ∈ xs.map (·.f))) = true := by rw [← inV_str]; exact e
        refine ⟨sm2.trans s3, ts2, s3 _ _ hD2, ?_⟩
        rw [hf, if_neg e, List.append_nil]
        exact hts2.same s3
    · rintro H2 ⟨sm2, ts2, hD2, hts2⟩
      rw [List.length_map, hus.len, List.take_length] at hts2
      have hlen : (joinedR xs ys).length = ts.length + ts2.length := by
        unfold joinedR
        rw [List.length_append, hts.len, hts2.len]
      refine .inl ⟨_, .inl (SqL.of (sm2 _ _ hD)), .inl ⟨_, .inl (SqL.of hD2), ?_⟩⟩
      rw [List.length_map, List.length_map]
      obtain ⟨mu, hmu⟩ := T.cv_Change_MOST
      have s02 := sm.trans sm2
      have t1 : ts.length ≤ 10 := by rw [hts.len, List.length_map]; exact lx
      have t2 : ts2.length ≤ 10 := by
        rw [hts2.len]
        exact Nat.le_trans (List.length_filter_le _ _) ly
      refine ⟨a_Change, _, _, _, rfl, T.rd_Change, hmu, ?_⟩
      unfold Joins at q
      refine ite2 (fun e => ?_) (fun e => ?_)
      · have e : (3 : Int) < (ts.length : Int) + ts2.length := of_decide_eq_true e
        rw [if_neg (by omega)] at q
        refine ⟨a_Change, _, _, _, rfl, T.rd_Change, hmu, ?_⟩
        refine mk_spE (by show 1 ≤ 1000; decide) ⟨3, rfl, by decide, by decide⟩ (fun d nd => ?_)
        exact q a_TooLarge d _ T.n_TooLarge (s02.trans (same_new nd)) (Same.free s02 nd) upd_same
      · have e : ¬ (3 : Int) < (ts.length : Int) + ts2.length := of_decide_eq_false (Bool.eq_false_iff.mpr e)
        rw [if_pos (by omega)] at q
        refine ⟨D, _, rfl, .inr (SqL.of (sm2 _ _ hD)), D2, _, rfl, .inr (SqL.of hD2), ?_⟩
        refine ⟨line_of (by rw [List.append_nil, List.length_append, List.length_map, List.length_map]; omega), fun p np => ?_⟩
        refine made (rs := ts ++ ts2) (xs := joinedR xs ys) T.n_Change (s02.trans (same_new np)) (.inr ?_) (((hts.same sm2).app hts2).same (same_new np)) q
        rw [upd_same, List.append_nil, List.map_append]
end
section
variable {P : Program} {w : World} {K : PySem.W.Frag} {mg : Str → Option Value} {base : Heap}
variable {t_BOUND t_LETTERS t_LONGEST_NAME : Tok} {a_RESERVED a_BadName a_BadNumber a_Change a_ElseputError a_TooLarge a_UnknownField a_UnknownKey a_UnknownName a_UnknownShape : Addr}
/-- a content -/
abbrev Ct := List (Key × V)
def kS (z : Str) : Key := .inr z
def Ints (c : Ct) : Prop := ∀ k v, valV c k = some v → ∃ i : Int, v = .int i
theorem Ints.put {c : Ct} (h : Ints c) (k : Key) (n : Int) : Ints (putK c k (.int n)) := fun j v e => by
  rw [valV_put] at e
  split at e
  · exact ⟨n, (Option.some.inj e).symm⟩
  · exact h j v e
def newN (c : Ct) (x : Rw) : Int := if x.add then (match valV c (kS x.f) with | some (.int o) => o + x.n | _ => x.n) else x.n
def stepR (c : Ct) (x : Rw) : Ct := putK c (kS x.f) (.int (newN c x))
def applyR (c : Ct) (xs : List Rw) : Ct := xs.foldl stepR c
def HasF (c : Ct) (z : Str) : Prop := (valV c (kS z)).isSome = true
theorem HasF.step {c : Ct} {z : Str} {x : Rw} (h : HasF c z) : HasF (stepR c x) z := by
  unfold HasF stepR at *
  rw [valV_put]
  split
  · rfl
  · exact h
theorem Ints.step {c : Ct} {x : Rw} (h : Ints c) : Ints (stepR c x) := h.put _ _
theorem putK_len' {c : Ct} {k : Key} {v : V} (h : (valV c k).isSome = true) : (putK c k v).length = c.length := by
  unfold putK
  rw [valV_any, if_pos h, List.length_map]
def missF (c : Ct) (xs : List Rw) : Option Str := (xs.map (·.f)).find? fun z => !(valV c (kS z)).isSome
instance decHas (c : Ct) (z : Str) : Decidable (HasF c z) := by
  unfold HasF
  exact inferInstance
theorem miss_none {c : Ct} {xs : List Rw} : missF c xs = none ↔ ∀ x ∈ xs, HasF c x.f := by
  unfold missF
  rw [List.find?_eq_none]
  constructor
  · intro h x hx
    have := h x.f (List.mem_map_of_mem hx)
    unfold HasF
    rw [Bool.not_eq_true, Bool.not_eq_false'] at this
    exact this
  · intro h z hz
    obtain ⟨x, hx, rfl⟩ := List.mem_map.mp hz
    have := h x hx
    unfold HasF at this
    rw [this]
    decide
theorem miss_snoc {c : Ct} {xs : List Rw} {x : Rw} : missF c (xs ++ [x]) = (missF c xs).or (if HasF c x.f then none else some x.f) := by
  unfold missF
  rw [List.map_append, List.find?_append]
  congr 1
  show List.find? _ [x.f] = _
  rw [List.find?_singleton]
  by_cases h : HasF c x.f
  · rw [if_pos h]
    unfold HasF at h
    rw [h]
    rfl
  · rw [if_neg h]
    unfold HasF at h
    rw [Bool.not_eq_true] at h
    rw [h]
    rfl
theorem miss_at {c : Ct} {xs : List Rw} {i : Nat} {x : Rw} (h : ∀ y ∈ xs.take i, HasF c y.f) (hx : xs[i]? = some x) (hm : ¬ HasF c x.f) : missF c xs = some x.f := by
  obtain ⟨h1, h2⟩ := List.getElem?_eq_some_iff.mp hx
  have e : xs = xs.take (i + 1) ++ xs.drop (i + 1) := (List.take_append_drop _ _).symm
  rw [e, take_snoc hx]
  have e1 : missF c (xs.take i ++ [x]) = some x.f := by
    rw [miss_snoc, miss_none.mpr h, if_neg hm]
    rfl
  unfold missF at e1 ⊢
  rw [List.map_append, List.find?_append, e1]
  rfl
def Misses (K : PySem.W.Frag) (H : Hp) (z : Str) (E : XK) : Prop := ∀ (C d : Addr) (H' : Hp), PySem.W.nsIn K mainGlobals "UnknownField" = some (some (.ref C)) → Same H H' → H d = none → H' d = some (.xd [("name", .str z)]) → E (.ref C) (some d) H'
def Calls (K : PySem.W.Frag) (H : Hp) (c : Ct) (xs : List Rw) (Q : VK) (E : XK) : Prop := match missF c xs with
  | none => ∀ (H' : Hp) (r : Addr), Same H H' → H r = none → H' r = some (.dK (applyR c xs)) → Q (.ref r) H'
  | some z => Misses K H z E
def sp_Change___call__ (K : PySem.W.Frag) : Sp := fun vs H Q E => ∃ (a p : Addr) (xs : List Rw) (c : Ct), vs = [.ref a, .ref p] ∧ ChAt K H a xs ∧ xs.length ≤ 20 ∧ H p = some (.dK c) ∧ Ints c ∧ c.length ≤ 100 ∧ (∀ x ∈ xs, isName x.f = true) ∧ Calls K H c xs Q E
theorem len_Change___call__ {vs : List V} {H : Hp} {Q : VK} {E : XK} (h : sp_Change___call__ K vs H Q E) : vs.length = 2 := by
  obtain ⟨_, _, _, _, rfl, _⟩ := h
  rfl
theorem ok_Change___call__ {f : Addr} {fd : FuncData} {f_Change_assigned : Addr} {fd_Change_assigned : FuncData} {p_Change_assigned : Addr} {f_UnknownField : Addr} {fd_UnknownField : FuncData} (F : Fun K "__call__" "Change.__call__" s_Change___call__ f fd) (T : Gs K mg t_BOUND t_LETTERS t_LONGEST_NAME a_RESERVED a_BadName a_BadNumber a_Change a_ElseputError a_TooLarge a_UnknownField a_UnknownKey a_UnknownName a_UnknownShape) (c_Change_assigned : CalP P w K mg base CX0 1 a_Change p_Change_assigned "assigned" f_Change_assigned fd_Change_assigned ["self"] (sp_Change_assigned K)) (c_UnknownField : CalEI P w K mg base 1 "UnknownField" a_UnknownField f_UnknownField fd_UnknownField ["self", "name"] okx_UnknownField fs_UnknownField ["name"]) : FnOk P w K mg base (L2.CX P w) 3 f fd ["self", "content"] (sp_Change___call__ K) := by
  refine F.okX sc_Change___call__ (fun vs H Q E h => len_Change___call__ h) (fun cdv A outer s H vs Q E hr h => ?_)
  obtain ⟨a, p, xs, c, rfl, hA, lx, hp, hI, hcl, hN, q⟩ := h
  obtain ⟨C, dx, t, rs, hC, ha, ht, hrs⟩ := id hA
  cases hC.symm.trans T.n_Change
  refine ⟨_, (pss_cons (ps_for (passes_of rfl) rfl (pi_tup (pe_prop (v_ 0) c_Change_assigned.cl c_Change_assigned.pr c_Change_assigned.G (hr.mono (by first | decide | omega)) c_Change_assigned.b .nil pass0 (by rfl))) (pg_name (i := 2) sc_Change___call__.nd rfl (.inl rfl)) (pss_one (ps_if (pt_cmp (pc_dnotin (hu_of hr) (v_ 2) (v_ 1))) (pss_one (ps_raise rfl (takes_of rfl rfl rfl rfl) (pmk_oex c_UnknownField.oex c_UnknownField.iC c_UnknownField.tI c_UnknownField.G (hr.mono (by first | decide | omega)) c_UnknownField.b .nil pass0 rfl c_UnknownField.m (pa_cons (v_ 2) pa_nil)))) pss_nil))) (pss_cons (ps_set (i := 3) sc_Change___call__.nd rfl (.inl rfl) (pe_callTy call_dictD (by rfl) T.z_dict (by decide +kernel) (pa_cons (v_ 1) pa_nil))) (pss_cons (ps_for (passes_of rfl) rfl (pi_tup (e_f K (v_ 0))) (pg_tup (by rfl) (pgs_cons (pg_name (i := 2) sc_Change___call__.nd rfl (.inl rfl)) (pgs_cons (pg_name (i := 4) sc_Change___call__.nd rfl (.inl rfl)) (pgs_cons (pg_name (i := 5) sc_Change___call__.nd rfl (.inl rfl)) pgs_nil)))) (pss_one (ps_asg (pe_ifExp (pt_c (eqK K hr.units) (v_ 4) pe_str) (v_ 5) (pe_op (addK K) (pe_dget (hu_of hr) (v_ 3) (v_ 2) (fun _ _ => rfl)) (v_ 5))) (pg_sub (v_ 3) (v_ 2) (set_dict (hu_of hr)))))) (pss_one (ps_ret (v_ 3)))))), ?_⟩
  refine ⟨a, dx, _, rfl, ha, a, xs, rfl, hA, lx, fun H1 t1 s1 ht1 => ?_⟩
  refine ⟨t1, rfl, ⟨_, .inl (.inl ht1)⟩, ?_⟩
  refine for_tup (K := K) (a := t1) (xs := (xs.map (·.f)).map V.str) (fun i σ' H' => H' = H1 ∧ (∃ y, σ' = [some (.ref a), some (.ref p), y, none, none, none]) ∧ ∀ y ∈ xs.take i, HasF c y.f) ⟨rfl, ⟨_, rfl⟩, fun _ h => nomatch h⟩ (fun i σ' H' _ h => by rw [h.1]; exact .inl (.inl ht1)) ?_ ?_
  · rintro i v σ' H' hi ⟨rfl, ⟨y, rfl⟩, hf⟩
    rw [List.getElem?_map, List.getElem?_map] at hi
    obtain ⟨z, hz, rfl⟩ := Option.map_eq_some_iff.mp hi
    obtain ⟨x, hx, rfl⟩ := Option.map_eq_some_iff.mp hz
    refine ⟨p, _, rfl, DGet.k (k := kS x.f) (s1 _ _ hp), ?_⟩
    refine ⟨_, rfl, ?_⟩
    refine ite2 (fun e => ?_) (fun e => ?_)
    · have hm : ¬ HasF c x.f := by
        have e : (!(valV c (kS x.f)).isSome) = true := by simpa using e
        unfold HasF
        rw [Bool.not_eq_true'] at e
        rw [e]
        decide
      have hn := hN x (List.mem_of_getElem? hx)
      unfold Calls at q
      rw [miss_at hf hx hm] at q
      refine mk_spE (by show 1 ≤ 1000; decide) ⟨x.f, rfl, by have := (isName_mem hn).2.2.1; omega, isName_asc hn⟩ (fun d nd => ?_)
      exact q a_UnknownField d _ T.n_UnknownField (s1.trans (same_new nd)) (Same.free s1 nd) upd_same
    · have hm : HasF c x.f := by
        unfold HasF
        by_cases h : (valV c (kS x.f)).isSome = true
        · exact h
        · exact absurd (by simpa using h) e
      refine ⟨rfl, ⟨_, rfl⟩, fun y hy => ?_⟩
      rw [take_snoc hx] at hy
      rcases List.mem_append.mp hy with h | h
      · exact hf y h
      · rw [List.mem_singleton.mp h]
        exact hm
  · rintro σ' H' ⟨rfl, ⟨y, rfl⟩, hF⟩
    rw [List.length_map, List.length_map, List.take_length] at hF
    have q : ∀ (H' : Hp) (r : Addr), Same H H' → H r = none → H' r = some (.dK (applyR c xs)) → Q (.ref r) H' := by
      unfold Calls at q
      rw [miss_none.mpr hF] at q
      exact q
    refine ⟨p, c, rfl, .inl (s1 _ _ hp), fun r nr => ?_⟩
    have s2 := s1.trans (same_new (o := .dK c) nr)
    have r0 : H r = none := Same.free s1 nr
    refine ⟨a, a_Change, dx, _, _, rfl, s2 _ _ ha, T.cl_Change, T.na_Change_assignments, rfl, t, rfl, ⟨_, .inl (.inl (s2 _ _ ht))⟩, ?_⟩
    have pr : p ≠ r := ne_of_none (s1 _ _ hp) nr
    have tr : t ≠ r := ne_of_none (s1 _ _ ht) nr
    refine for_tup (K := K) (a := t) (xs := rs.map V.ref) (fun i σ' H2 => (∃ y z w, σ' = [some (.ref a), some (.ref p), y, some (.ref r), z, w]) ∧ Same H H2 ∧ H2 r = some (.dK (applyR c (xs.take i)))) ?_ ?_ ?_ ?_
    · exact ⟨⟨_, _, _, rfl⟩, s2, upd_same⟩
    · exact fun i σ' H2 _ h => .inl (.inl (h.2.1 _ _ ht))
    · rintro i v σ' H2 hi ⟨⟨y, z, w, rfl⟩, sm, hr2⟩
      rw [List.getElem?_map] at hi
      obtain ⟨k, hk, rfl⟩ := Option.map_eq_some_iff.mp hi
      obtain ⟨x, hx, hax⟩ := hrs.get hk
      have hd : applyR c (xs.take (i + 1)) = stepR (applyR c (xs.take i)) x := by
        rw [take_snoc hx]
        unfold applyR
        rw [List.foldl_append]
        rfl
      have hIi : ∀ {c : Ct} (l : List Rw), Ints c → Ints (applyR c l) := fun {c} l => by
        induction l generalizing c with
        | nil => exact fun h => h
        | cons x l ih => exact fun h => ih h.step
      have hFi : ∀ {c : Ct} {z : Str} (l : List Rw), HasF c z → HasF (applyR c l) z := fun {c z} l => by
        induction l generalizing c with
        | nil => exact fun h => h
        | cons x l ih => exact fun h => ih h.step
      have hLi : ∀ {c : Ct} (l : List Rw), (∀ x ∈ l, HasF c x.f) → (applyR c l).length = c.length := fun {c} l => by
        induction l generalizing c with
        | nil => exact fun _ => rfl
        | cons x l ih =>
          intro h
          have := ih (c := stepR c x) fun y hy => (h y (List.mem_cons_of_mem _ hy)).step
          exact this.trans (putK_len' (h x List.mem_cons_self))
      have hf := hFi (xs.take i) (hF x (List.mem_of_getElem? hx))
      have hn := hIi (xs.take i) hI
      have hlen := hLi (xs.take i) fun y hy => hF y (List.mem_of_mem_take hy)
      generalize applyR c (xs.take i) = c' at hr2 hd hf hn hlen
      obtain ⟨v, hv⟩ := Option.isSome_iff_exists.mp hf
      obtain ⟨o, rfl⟩ := hn _ _ hv
      refine ⟨k, _, rfl, .inl (.inl (sm _ _ hax)), rfl, _, _, rfl, _, _, rfl, _, _, rfl, rfl, ?_⟩
      have fin : ∀ n : Int, n = newN c' x → (∃ y z w : Option V, [some (V.ref a), some (V.ref p), some (V.str x.f), some (V.ref r), some (V.str (deed x.add)), some (V.int x.n)] = [some (V.ref a), some (V.ref p), y, some (V.ref r), z, w]) ∧ Same H (upd H2 r (.dK (putK c' (kS x.f) (.int n)))) ∧ (upd H2 r (.dK (putK c' (kS x.f) (.int n)))) r = some (.dK (applyR c (xs.take (i + 1)))) := fun n e => by
        refine ⟨⟨_, _, _, rfl⟩, fun b ob hb => ?_, ?_⟩
        · rw [upd_ne (ne_of_none hb r0)]
          exact sm _ _ hb
        · rw [upd_same, hd, e]
          rfl
      refine ite2 (fun e => ?_) (fun e => ?_)
      · have e : x.add = false := by simpa using deed_set.symm.trans e
        refine ⟨r, _, rfl, DPut.k (k := kS x.f) hr2 (line_lt (by omega)), ?_⟩
        exact fin _ (by unfold newN; rw [e]; rfl)
      · have e : x.add = true := by
          have := deed_set.symm.trans (Bool.eq_false_iff.mpr e)
          simpa using this
        have hg := DGet.k (k := kS x.f) hr2
        rw [hv] at hg
        refine ⟨r, _, rfl, hg, ?_⟩
        refine ⟨r, _, rfl, DPut.k (k := kS x.f) hr2 (line_lt (by omega)), ?_⟩
        exact fin _ (by unfold newN; rw [e, hv]; rfl)
    · rintro σ' H2 ⟨⟨y, z, w, rfl⟩, sm, hr2⟩
      rw [List.length_map, hrs.len, List.take_length] at hr2
      exact q H2 r sm r0 hr2
end
section
variable {P : Program} {w : World} {K : PySem.W.Frag} {mg : Str → Option Value} {base : Heap}
variable {t_BOUND t_LETTERS t_LONGEST_NAME : Tok} {a_RESERVED a_BadName a_BadNumber a_Change a_ElseputError a_TooLarge a_UnknownField a_UnknownKey a_UnknownName a_UnknownShape : Addr}
def sp__law_draw (K : PySem.W.Frag) : Sp := fun vs H Q _ => ∃ (st scr : Addr) (many : Int), vs = [.ref st, .int many] ∧ DrAt H st scr ∧ 0 < many ∧ many.natAbs < 2 ^ 200 ∧
  ∀ (r : Int) (l : List V), 0 ≤ r → r < many → DrAt (upd H st (.lst l)) st scr → Q (.int r) (upd H st (.lst l))
theorem len__law_draw {vs : List V} {H : Hp} {Q : VK} {E : XK} (h : sp__law_draw K vs H Q E) : vs.length = 2 := by
  obtain ⟨_, _, _, rfl, _⟩ := h
  rfl
theorem ok__law_draw {f : Addr} {fd : FuncData} (F : Fun K "_law_draw" "_law_draw" s__law_draw f fd) (T : Gs K mg t_BOUND t_LETTERS t_LONGEST_NAME a_RESERVED a_BadName a_BadNumber a_Change a_ElseputError a_TooLarge a_UnknownField a_UnknownKey a_UnknownName a_UnknownShape) : FnOk P w K mg base CX0 1 f fd ["_law_state_here", "_law_many"] (sp__law_draw K) := by
  refine F.ok sc__law_draw (fun vs H Q E h => len__law_draw h) (fun cdv A outer s H vs Q E hr h => ?_)
  obtain ⟨st, scr, many, rfl, ⟨ns, i, v, m, c, hst, hscr, hl, h0⟩, hm0, hm1, q⟩ := h
  have hne := DrAt.ne hst hscr
  refine ⟨_, (Evl.pss_cut (ps_if (pt_c (eqK K hr.units) (e_x K (v_ 0) pe_int) pe_int) (pss_cons (ps_if (pt_c op_geM (e_x K (v_ 0) pe_int) (pe_callB (lenK K) (by rfl) T.z_len PySem.boot_len (pa_cons (e_x K (v_ 0) pe_int) pa_nil))) (pss_one (ps_ret pe_int)) pss_nil) (pss_cons (ps_asg (pe_callTy call_intM (by rfl) T.z_int (by decide +kernel) (pa_cons (e_x K (e_x K (v_ 0) pe_int) (e_x K (v_ 0) pe_int)) pa_nil)) (pg_sub (v_ 0) pe_int set_list)) (pss_cons (ps_asg (pe_op (addK K) (e_x K (v_ 0) pe_int) pe_int) (pg_sub (v_ 0) pe_int set_list)) (pss_cons (ps_asg pe_int (pg_sub (v_ 0) pe_int set_list)) (pss_cons (ps_asg pe_int (pg_sub (v_ 0) pe_int set_list)) (pss_one (ps_if (pt_c op_ltM (e_x K (v_ 0) pe_int) (pe_op op_powM pe_int pe_int)) (pss_one (ps_asg pe_int (pg_sub (v_ 0) pe_int set_list))) pss_nil))))))) pss_nil) (pss_cons (ps_asg (pe_op (addK K) (e_x K (v_ 0) pe_int) pe_int) (pg_sub (v_ 0) pe_int set_list)) (pss_cons (ps_if (pt_c (eqK K hr.units) (e_x K (v_ 0) pe_int) pe_int) (pss_cons (ps_set (i := 5) sc__law_draw.nd rfl (.inl rfl) (pe_op op_modM (pe_callTy call_intM (by rfl) T.z_int (by decide +kernel) (pa_cons (e_x K (v_ 0) pe_int) pa_nil)) (v_ 1))) (pss_cons (ps_asg (pe_op op_divM (pe_callTy call_intM (by rfl) T.z_int (by decide +kernel) (pa_cons (e_x K (v_ 0) pe_int) pa_nil)) (v_ 1)) (pg_sub (v_ 0) pe_int set_list)) (Evl.pss_cut (ps_if (PW.pt (pw_or (pt_c (eqK K hr.units) (e_x K (v_ 0) pe_int) pe_int) (pw_or1 (pt_c op_geM (e_x K (v_ 0) pe_int) pe_int)))) (pss_one (ps_asg pe_int (pg_sub (v_ 0) pe_int set_list))) pss_nil) (pss_one (ps_ret (v_ 5)))))) pss_nil) (pss_cons (ps_set (i := 2) sc__law_draw.nd rfl (.inl rfl) (pe_op op_modM (pe_callTy call_intM (by rfl) T.z_int (by decide +kernel) (pa_cons (pe_op (addK K) (pe_op op_mulSM (e_x K (v_ 0) pe_int) pe_int) (pe_op op_mulSM (e_x K (v_ 0) pe_int) pe_int)) pa_nil)) pe_int)) (pss_cons (ps_set (i := 3) sc__law_draw.nd rfl (.inl rfl) (pe_op op_modM (pe_callTy call_intM (by rfl) T.z_int (by decide +kernel) (pa_cons (pe_op (addK K) (pe_op (addK K) (pe_op op_mulSM (v_ 2) (v_ 2)) (pe_op op_mulSM (e_x K (v_ 0) pe_int) pe_int)) pe_int) pa_nil)) pe_int)) (Evl.pss_cut (ps_if (pt_c op_geM (e_x K (v_ 0) pe_int) pe_int) (pss_one (ps_asg pe_int (pg_sub (v_ 0) pe_int set_list))) pss_nil) (pss_cons (ps_set (i := 4) sc__law_draw.nd rfl (.inl rfl) (pe_op op_modM (pe_callTy call_intM (by rfl) T.z_int (by decide +kernel) (pa_cons (pe_op (addK K) (pe_op op_mulSM (v_ 3) pe_int) (v_ 2)) pa_nil)) pe_int)) (pss_one (ps_ret (pe_op op_modM (pe_callTy call_intM (by rfl) T.z_int (by decide +kernel) (pa_cons (v_ 4) pa_nil)) (v_ 1))))))))))), ?_⟩
  refine ⟨fun σ' H' => σ' = [some (.ref st), some (.int many), none, none, none, none] ∧ ∃ i v m c, H' = upd H st (.lst (stv scr i v m c)) ∧ 0 ≤ i, ?_, ?_⟩
  · refine ⟨_, .inl (SqL.of hst), _, rfl, ?_⟩
    refine ite2 (fun e => ?_) (fun e => ?_)
    · refine ⟨_, .inl (SqL.of hst), _, rfl, _, .inl (SqL.of hst), _, rfl, .inl ⟨_, .inl (SqL.of hscr), ?_⟩⟩
      refine ite2 (fun e1 => ?_) (fun e1 => ?_)
      · have z := q 0 (stv scr i v m c) (by omega) hm0 (DrAt.upd hst hscr hl h0)
        rw [upd_id hst] at z
        exact z
      · have e2 := of_decide_eq_false (Bool.eq_false_iff.mpr e1)
        rw [List.length_map] at e2
        obtain ⟨z, hz⟩ : ∃ z, atI (ns.map V.int) i = some (.int z) := by
          have hi : i.toNat < ns.length := by omega
          refine ⟨ns[i.toNat], ?_⟩
          have hq : atI (ns.map V.int) ((i.toNat : Nat) : Int) = some (.int ns[i.toNat]) := atI_nat (by rw [List.getElem?_map, List.getElem?_eq_getElem hi]; rfl)
          rwa [show ((i.toNat : Nat) : Int) = i by omega] at hq
        refine ⟨_, .inl (SqL.of hst), _, rfl, _, .inl (SqL.of hst), _, rfl, _, .inl (SqL.of hscr), _, hz, ?_⟩
        refine ⟨_, _, _, 2, rfl, rfl, hst, rfl, ?_⟩
        refine ⟨_, .inl (SqL.of upd_same), _, rfl, ?_⟩
        refine ⟨_, _, _, 1, rfl, rfl, upd_same, rfl, ?_⟩
        refine ⟨_, _, _, 3, rfl, rfl, upd_same, rfl, ?_⟩
        refine ⟨_, _, _, 4, rfl, rfl, upd_same, rfl, ?_⟩
        refine ⟨_, .inl (SqL.of upd_same), _, rfl, (by unfold CPow; decide), ?_⟩
        refine ite2 (fun e3 => ?_) (fun e3 => ?_)
        · refine ⟨_, _, _, 3, rfl, rfl, upd_same, rfl, rfl, i + 1, z, 2, 0, ?_, by omega⟩
          rw [upd_upd, upd_upd, upd_upd, upd_upd]
          rfl
        · refine ⟨rfl, i + 1, z, 1, 0, ?_, by omega⟩
          rw [upd_upd, upd_upd, upd_upd]
          rfl
    · exact ⟨rfl, i, v, m, c, (upd_id hst).symm, h0⟩
  · rintro σ' H' ⟨rfl, i, v, m, c, rfl, h0⟩
    have hscr' : ∀ o, upd H st o scr = some (.lst (ns.map V.int)) := fun o => by rw [upd_ne hne]; exact hscr
    refine ⟨_, .inl (SqL.of upd_same), _, rfl, ?_⟩
    refine ⟨_, _, _, 4, rfl, rfl, upd_same, rfl, ?_⟩
    rw [upd_upd]
    refine ⟨_, .inl (SqL.of upd_same), _, rfl, ?_⟩
    refine ite2 (fun e => ?_) (fun e => ?_)
    · refine ⟨_, .inl (SqL.of upd_same), _, rfl, hm0, ?_⟩
      refine ⟨_, .inl (SqL.of upd_same), _, rfl, .inr (wide_div hm0 (b := 200) hm1 (by decide) (by decide)), ?_⟩
      refine ⟨_, _, _, 2, rfl, rfl, upd_same, rfl, ?_⟩
      rw [upd_upd]
      have fin : ∀ m' : Int, Q (.int (v % many)) (upd H st (.lst (stv scr i (v / many) m' (c + 1)))) := fun m' => q _ _ (Int.emod_nonneg _ (by omega)) (Int.emod_lt_of_pos _ hm0) (DrAt.upd hst hscr hl h0)
      refine ⟨fun σ' H' => σ' = [some (.ref st), some (.int many), none, none, none, some (.int (v % many))] ∧ ∃ m', H' = upd H st (.lst (stv scr i (v / many) m' (c + 1))), ?_, ?_⟩
      · refine ⟨_, .inl (SqL.of upd_same), _, rfl, ?_⟩
        refine ite2 (fun e1 => ?_) (fun e1 => ?_)
        · refine ⟨_, _, _, 3, rfl, rfl, upd_same, rfl, rfl, 0, ?_⟩
          rw [upd_upd]
          rfl
        · refine ⟨_, .inl (SqL.of upd_same), _, rfl, ?_⟩
          refine ite2 (fun e1 => ?_) (fun e1 => ?_)
          · refine ⟨_, _, _, 3, rfl, rfl, upd_same, rfl, rfl, 0, ?_⟩
            rw [upd_upd]
            rfl
          · exact ⟨rfl, m, rfl⟩
      · rintro σ' H' ⟨rfl, m', rfl⟩
        exact fin m'
    · refine ⟨_, .inl (SqL.of upd_same), _, rfl, .inl (.inr ⟨by decide, by decide⟩), ?_⟩
      refine ⟨_, .inl (SqL.of upd_same), _, rfl, .inl (.inr ⟨by decide, by decide⟩), (by decide), ?_⟩
      have f0 := Int.emod_nonneg (v * 48271 + (c + 1) * 69621) (by decide : (2147483647 : Int) ≠ 0)
      have f1 := Int.emod_lt_of_pos (v * 48271 + (c + 1) * 69621) (by decide : (0 : Int) < 2147483647)
      refine ⟨.inl (.inl ⟨by omega, by omega⟩), ?_⟩
      refine ⟨_, .inl (SqL.of upd_same), _, rfl, .inl (.inr ⟨by decide, by decide⟩), (by decide), ?_⟩
      have fin : ∀ (m' x : Int), Q (.int (x % many)) (upd H st (.lst (stv scr i v m' (c + 1)))) := fun m' x => q _ _ (Int.emod_nonneg _ (by omega)) (Int.emod_lt_of_pos _ hm0) (DrAt.upd hst hscr hl h0)
      refine ⟨fun σ' H' => (∃ a b, σ' = [some (.ref st), some (.int many), some (.int a), some (.int b), none, none]) ∧ ∃ m', H' = upd H st (.lst (stv scr i v m' (c + 1))), ?_, ?_⟩
      · refine ⟨_, .inl (SqL.of upd_same), _, rfl, ?_⟩
        refine ite2 (fun e1 => ?_) (fun e1 => ?_)
        · refine ⟨_, _, _, 3, rfl, rfl, upd_same, rfl, ⟨_, _, rfl⟩, 0, ?_⟩
          rw [upd_upd]
          rfl
        · exact ⟨⟨_, _, rfl⟩, m, rfl⟩
      · rintro σ' H' ⟨⟨a, b, rfl⟩, m', rfl⟩
        refine ⟨.inl (.inr ⟨by decide, by decide⟩), (by decide), hm0, ?_⟩
        exact fin m' _

/-! ### _law_state -/
def sp__law_state (K : PySem.W.Frag) : Sp := fun vs H Q _ => ∃ (a : Addr) (ns : List Int), vs = [.ref a] ∧ SqL K H a (ns.map V.int) ∧ ns.length ≤ 63 ∧
  ∀ (H' : Hp) (st scr : Addr), Same H H' → H st = none → H scr = none → DrAt H' st scr → Q (.ref st) H'
theorem len__law_state {vs : List V} {H : Hp} {Q : VK} {E : XK} (h : sp__law_state K vs H Q E) : vs.length = 1 := by
  obtain ⟨_, _, rfl, _⟩ := h
  rfl
theorem ok__law_state {f : Addr} {fd : FuncData} (F : Fun K "_law_state" "_law_state" s__law_state f fd) (T : Gs K mg t_BOUND t_LETTERS t_LONGEST_NAME a_RESERVED a_BadName a_BadNumber a_Change a_ElseputError a_TooLarge a_UnknownField a_UnknownKey a_UnknownName a_UnknownShape) : FnOk P w K mg base CX0 1 f fd ["_law_script"] (sp__law_state K) := by
  refine F.ok sc__law_state (fun vs H Q E h => len__law_state h) (fun cdv A outer s H vs Q E hr h => ?_)
  obtain ⟨a, ns, rfl, hS, hl, q⟩ := h
  refine ⟨_, (pss_one (ps_ret (pe_lst (pa_cons (pe_callTy (listK K) (by rfl) T.z_list (by decide +kernel) (pa_cons (v_ 0) pa_nil)) (pa_cons pe_int (pa_cons pe_int (pa_cons pe_int (pa_cons pe_int pa_nil)))))))), ?_⟩
  refine ⟨_, _, rfl, .inl hS, fun l nl => ?_⟩
  refine ⟨(by show 5 ≤ sizeLine; decide), fun st nst => ?_⟩
  have hne := new_ne nst
  refine q _ st l ((same_new nl).trans (same_new nst)) (free_new nst) nl ⟨ns, 0, 0, 0, 0, upd_same, ?_, hl, by omega⟩
  rw [upd_ne hne.symm, upd_same]

/-! ### _law_pick -/
theorem at_list {α : Type} {xs : List α} {r : Int} (h0 : 0 ≤ r) (h1 : r < xs.length) : ∃ x, atI xs r = some x ∧ x ∈ xs := by
  have hi : r.toNat < xs.length := by omega
  refine ⟨xs[r.toNat], ?_, List.getElem_mem hi⟩
  have hq : atI xs ((r.toNat : Nat) : Int) = some xs[r.toNat] := atI_nat (List.getElem?_eq_getElem hi)
  rwa [show ((r.toNat : Nat) : Int) = r by omega] at hq
theorem at_str {z : Str} {r : Int} (h0 : 0 ≤ r) (h1 : r < z.length) : ∃ c, atI z.cps.toList r = some c ∧ c ∈ z.cps.toList := at_list h0 (by rw [len_cps]; exact h1)
theorem many_small {m : Int} (h0 : 0 < m) (h1 : m ≤ 1000000000) : m.natAbs < 2 ^ 200 := Nat.lt_of_le_of_lt (show m.natAbs ≤ 2 ^ 30 by omega) (Nat.pow_lt_pow_right (by decide) (by decide))
def sp__law_pick (K : PySem.W.Frag) : Sp := fun vs H Q _ => ∃ (st scr : Addr) (v : V), vs = [.ref st, v] ∧ DrAt H st scr ∧
  ((∃ z : Str, v = .str z ∧ 0 < z.length ∧ z.length ≤ 1000 ∧ ∀ (c : Nat) (l : List V), c ∈ z.cps.toList → DrAt (upd H st (.lst l)) st scr → Q (.str ⟨#[c]⟩) (upd H st (.lst l))) ∨
    ∃ (p : Addr) (xs : List V), v = .ref p ∧ H p = some (.lst xs) ∧ p ≠ st ∧ 0 < xs.length ∧ xs.length ≤ 1000 ∧ ∀ (x : V) (l : List V), x ∈ xs → DrAt (upd H st (.lst l)) st scr → Q x (upd H st (.lst l)))
theorem len__law_pick {vs : List V} {H : Hp} {Q : VK} {E : XK} (h : sp__law_pick K vs H Q E) : vs.length = 2 := by
  obtain ⟨_, _, _, rfl, _⟩ := h
  rfl
theorem ok__law_pick {f : Addr} {fd : FuncData} {f__law_draw : Addr} {fd__law_draw : FuncData} (F : Fun K "_law_pick" "_law_pick" s__law_pick f fd) (T : Gs K mg t_BOUND t_LETTERS t_LONGEST_NAME a_RESERVED a_BadName a_BadNumber a_Change a_ElseputError a_TooLarge a_UnknownField a_UnknownKey a_UnknownName a_UnknownShape) (c__law_draw : Cal P w K mg base CX0 1 "_law_draw" f__law_draw fd__law_draw ["_law_state_here", "_law_many"] (sp__law_draw K)) : FnOk P w K mg base CX0 2 f fd ["_law_state_here", "_law_row"] (sp__law_pick K) := by
  refine F.ok sc__law_pick (fun vs H Q E h => len__law_pick h) (fun cdv A outer s H vs Q E hr h => ?_)
  obtain ⟨st, scr, v, rfl, hd, h⟩ := h
  refine ⟨_, (pss_one (ps_ret (e_x K (v_ 1) (pe_call c__law_draw.G (hr.mono (by first | decide | omega)) rfl c__law_draw.m c__law_draw.kp c__law_draw.b .nil pass0 (pa_cons (v_ 0) (pa_cons (pe_callB (lenK K) (by rfl) T.z_len PySem.boot_len (pa_cons (v_ 1) pa_nil)) pa_nil)))))), ?_⟩
  rcases h with ⟨z, rfl, h0, h1, q⟩ | ⟨p, xs, rfl, hp, hne, h0, h1, q⟩
  · refine ⟨line_of (by omega), st, scr, _, rfl, hd, by omega, many_small (by omega) (by omega), fun r l r0 r1 hd' => ?_⟩
    obtain ⟨c, hc, hm⟩ := at_str r0 r1
    exact ⟨line_of (by omega), c, hc, q c l hm hd'⟩
  · refine .inl ⟨_, .inl (SqL.of hp), st, scr, _, rfl, hd, by omega, many_small (by omega) (by omega), fun r l r0 r1 hd' => ?_⟩
    obtain ⟨x, hx, hm⟩ := at_list r0 r1
    exact ⟨_, .inl (SqL.of (by rw [upd_ne hne]; exact hp)), x, hx, q x l hm hd'⟩

/-! ### _law_mixed -/
theorem cutV_take (xs : List V) {k : Int} (h : 0 ≤ k) : cutV xs none (some k) = xs.take k.toNat := by
  unfold cutV
  have e := HT.sIx_nat xs.length xs.length k.toNat
  rw [show ((k.toNat : Nat) : Int) = k by omega] at e
  rw [e, HT.sIx_none, List.drop_zero]
  by_cases hk : k.toNat ≤ xs.length
  · rw [Nat.min_eq_left hk, Nat.sub_zero]
  · rw [Nat.min_eq_right (by omega), Nat.sub_zero, List.take_length, List.take_of_length_le (by omega)]
theorem cutV_drop (xs : List V) {k : Int} (h : 0 ≤ k) : cutV xs (some k) none = xs.drop k.toNat := by
  unfold cutV
  have e := HT.sIx_nat xs.length 0 k.toNat
  rw [show ((k.toNat : Nat) : Int) = k by omega] at e
  rw [e, HT.sIx_none]
  by_cases hk : k.toNat ≤ xs.length
  · rw [Nat.min_eq_left hk, List.take_of_length_le (by rw [List.length_drop]; omega)]
  · rw [Nat.min_eq_right (by omega), List.drop_of_length_le (Nat.le_refl _), List.drop_of_length_le (by omega)]
    exact List.take_nil
def sp__law_mixed (K : PySem.W.Frag) : Sp := fun vs H Q _ => ∃ (st scr p : Addr) (xs : List V), vs = [.ref st, .ref p] ∧ DrAt H st scr ∧ H p = some (.lst xs) ∧ p ≠ st ∧ xs.length ≤ 1000 ∧
  ∀ (H' : Hp) (r : Addr) (ys : List V), Bt st H H' → DrAt H' st scr → H r = none → H' r = some (.lst ys) → ys.Perm xs → Q (.ref r) H'
theorem len__law_mixed {vs : List V} {H : Hp} {Q : VK} {E : XK} (h : sp__law_mixed K vs H Q E) : vs.length = 2 := by
  obtain ⟨_, _, _, _, rfl, _⟩ := h
  rfl
theorem ok__law_mixed {f : Addr} {fd : FuncData} {f__law_draw : Addr} {fd__law_draw : FuncData} (F : Fun K "_law_mixed" "_law_mixed" s__law_mixed f fd) (T : Gs K mg t_BOUND t_LETTERS t_LONGEST_NAME a_RESERVED a_BadName a_BadNumber a_Change a_ElseputError a_TooLarge a_UnknownField a_UnknownKey a_UnknownName a_UnknownShape) (c__law_draw : Cal P w K mg base CX0 1 "_law_draw" f__law_draw fd__law_draw ["_law_state_here", "_law_many"] (sp__law_draw K)) : FnOk P w K mg base CX0 2 f fd ["_law_state_here", "_law_row"] (sp__law_mixed K) := by
  refine F.ok sc__law_mixed (fun vs H Q E h => len__law_mixed h) (fun cdv A outer s H vs Q E hr h => ?_)
  obtain ⟨st, scr, p, xs, rfl, hd, hp, hne, hl, q⟩ := h
  refine ⟨_, (pss_cons (ps_set (i := 2) sc__law_mixed.nd rfl (.inl rfl) (pe_callTy (listK K) (by rfl) T.z_list (by decide +kernel) (pa_cons (v_ 1) pa_nil))) (pss_cons (ps_set (i := 3) sc__law_mixed.nd rfl (.inl rfl) (pe_lst pa_nil)) (pss_cons (ps_for PassesOwn.never rfl (pi_range1 rfl T.z_range (pa_cons (pe_callB (lenK K) (by rfl) T.z_len PySem.boot_len (pa_cons (v_ 1) pa_nil)) pa_nil)) (pg_name (i := 4) sc__law_mixed.nd rfl (.inl rfl)) (pss_cons (ps_set (i := 5) sc__law_mixed.nd rfl (.inl rfl) (pe_call c__law_draw.G (hr.mono (by first | decide | omega)) rfl c__law_draw.m c__law_draw.kp c__law_draw.b .nil pass0 (pa_cons (v_ 0) (pa_cons (pe_callB (lenK K) (by rfl) T.z_len PySem.boot_len (pa_cons (v_ 2) pa_nil)) pa_nil)))) (pss_cons (ps_expr (pe_bm PySem.F.plainAttrs_list PySem.F.slot_list_append PySem.F.type_list_append mt_append (v_ 3) (pa_cons (e_x K (v_ 2) (v_ 5)) pa_nil))) (pss_one (ps_set (i := 2) sc__law_mixed.nd rfl (.inl rfl) (pe_op (addK K) (pe_slice (slK K) (v_ 2) po_none (po_some (v_ 5))) (pe_slice (slK K) (v_ 2) (po_some (pe_op (addK K) (v_ 5) pe_int)) po_none))))))) (pss_one (ps_ret (v_ 3)))))), ?_⟩
  refine ⟨_, _, rfl, .inl (SqL.of hp), fun t nt => ?_⟩
  refine ⟨Nat.zero_le _, fun r nr => ?_⟩
  have tr := new_ne nr
  have hr0 := free_new nr
  have hd0 := (hd.new (same_new (o := .lst xs) nt)).new (same_new (o := .lst []) nr)
  have ts : t ≠ st := hd.ne_new nt
  have rs : r ≠ st := hd.ne_new hr0
  have rc : r ≠ scr := hd.ne_scr hr0
  refine .inl ⟨_, .inl (SqL.of (by rw [upd_ne (ne_of_none hp hr0), upd_ne (ne_of_none hp nt)]; exact hp)), xs.length, rfl, by omega, by omega, ?_⟩
  refine for_range (lo := 0) (n := xs.length) (fun i σ' H' => ∃ (t : Addr) (rest ys : List V) (y z : Option V), σ' = [some (.ref st), some (.ref p), some (.ref t), some (.ref r), y, z] ∧ Bt st H H' ∧ DrAt H' st scr ∧ t ≠ st ∧ t ≠ r ∧ H' t = some (.lst rest) ∧ H' r = some (.lst ys) ∧ rest.length + i = xs.length ∧ ys.length = i ∧ (rest ++ ys).Perm xs) ?_ ?_ ?_
  · exact ⟨t, xs, [], _, _, rfl, .same ((same_new nt).trans (same_new nr)), hd0, ts, tr.symm, by rw [upd_ne tr.symm, upd_same], upd_same, rfl, rfl, by rw [List.append_nil]⟩
  · rintro i σ' H' hi ⟨t, rest, ys, y, z, rfl, bt, hd, ts, tr, ht, hr, l1, l2, m1⟩
    refine .inl ⟨_, .inl (SqL.of ht), st, scr, _, rfl, hd, by omega, many_small (by omega) (by omega), fun a l a0 a1 hd' => ?_⟩
    have ht1 : upd H' st (.lst l) t = some (.lst rest) := by rw [upd_ne ts]; exact ht
    have hr1 : upd H' st (.lst l) r = some (.lst ys) := by rw [upd_ne rs]; exact hr
    obtain ⟨x, hx, hm⟩ := at_list a0 a1
    refine ⟨.inl ⟨rfl, _, SqL.of hr1⟩, _, .inl (SqL.of ht1), x, hx, r, ys, x, rfl, rfl, hr1, line_lt (by omega), ?_⟩
    have hd2 := hd'.at (o := .lst (ys ++ [x])) rs rc
    have ht2 : upd (upd H' st (.lst l)) r (.lst (ys ++ [x])) t = some (.lst rest) := by rw [upd_ne tr]; exact ht1
    refine ⟨a, rfl, .inl ⟨rest, SqL.of ht2, fun u nu => ?_⟩⟩
    rw [cutV_take _ a0]
    have ht3 := same_new (o := .lst (rest.take a.toNat)) nu _ _ ht2
    refine ⟨a + 1, rfl, .inl ⟨rest, SqL.of ht3, fun v nv => ?_⟩⟩
    rw [cutV_drop _ (by omega)]
    have hu := same_new (o := .lst (rest.drop (a + 1).toNat)) nv _ _ (upd_same (H := upd (upd H' st (.lst l)) r (.lst (ys ++ [x]))) (a := u) (o := .lst (rest.take a.toNat)))
    refine .inl ⟨_, _, hu, upd_same, line_of (by rw [List.length_take, List.length_drop]; omega), fun k nk => ?_⟩
    have sm := ((same_new (o := .lst (rest.take a.toNat)) nu).trans (same_new (o := .lst (rest.drop (a + 1).toNat)) nv)).trans (same_new (o := .lst (rest.take a.toNat ++ rest.drop (a + 1).toNat)) nk)
    have hd3 := hd2.new sm
    have kn := free_new (free_new nk)
    refine ⟨k, _, ys ++ [x], _, _, rfl, ?_, hd3, hd2.ne_new kn, (ne_of_none upd_same kn).symm, upd_same, sm _ _ upd_same, ?_, by rw [List.length_append, l2]; rfl, ?_⟩
    · intro b o nb hb
      refine sm _ _ ?_
      have := bt b o nb hb
      rw [upd_ne (ne_of_none hb hr0), upd_ne nb]
      exact this
    · rw [List.length_append, List.length_take, List.length_drop]
      omega
    · have hx' : rest[a.toNat]? = some x := by
        obtain ⟨x', e1, e2⟩ : ∃ x', rest[a.toNat]? = some x' ∧ atI rest a = some x' := by
          have hlt : a.toNat < rest.length := by omega
          refine ⟨_, List.getElem?_eq_getElem hlt, ?_⟩
          have := atI_nat (List.getElem?_eq_getElem hlt)
          rwa [show ((a.toNat : Nat) : Int) = a by omega] at this
        rw [hx] at e2
        cases e2
        exact e1
      have hr' : rest = rest.take a.toNat ++ x :: rest.drop (a + 1).toNat := by
        obtain ⟨h1, h2⟩ := List.getElem?_eq_some_iff.mp hx'
        rw [show (a + 1).toNat = a.toNat + 1 by omega, ← h2, ← List.drop_eq_getElem_cons h1, List.take_append_drop]
      refine List.Perm.trans ?_ m1
      rw [← List.append_assoc]
      have p1 : (rest.take a.toNat ++ rest.drop (a + 1).toNat ++ ys ++ [x]).Perm (rest.take a.toNat ++ (x :: rest.drop (a + 1).toNat) ++ ys) := by
        refine (List.perm_append_comm (l₁ := rest.take a.toNat ++ rest.drop (a + 1).toNat ++ ys) (l₂ := [x])).trans ?_
        rw [List.append_assoc, List.append_assoc]
        exact (List.perm_middle (a := x) (l₁ := rest.take a.toNat) (l₂ := rest.drop (a + 1).toNat ++ ys)).symm
      rw [← hr'] at p1
      exact p1
  · rintro σ' H' ⟨t, rest, ys, y, z, rfl, bt, hd, ts, tr, ht, hr, l1, l2, m1⟩
    refine q H' r ys bt hd hr0 hr ?_
    have : rest = [] := List.eq_nil_of_length_eq_zero (by omega)
    rw [this] at m1
    exact m1
end
section
variable {P : Program} {w : World} {K : PySem.W.Frag} {mg : Str → Option Value} {base : Heap}
variable {t_BOUND t_LETTERS t_LONGEST_NAME : Tok} {a_RESERVED a_BadName a_BadNumber a_Change a_ElseputError a_TooLarge a_UnknownField a_UnknownKey a_UnknownName a_UnknownShape : Addr}
/-! ### _law_same -/
def sp__law_is_int (K : PySem.W.Frag) : Sp := fun vs H Q _ => ∃ i : Int, vs = [.int i] ∧ Q (.bl true) H
theorem len__law_is_int {vs : List V} {H : Hp} {Q : VK} {E : XK} (h : sp__law_is_int K vs H Q E) : vs.length = 1 := by
  obtain ⟨_, rfl, _⟩ := h
  rfl
theorem ok__law_is_int {f : Addr} {fd : FuncData} (F : Fun K "_law_is_int" "_law_is_int" s__law_is_int f fd) (T : Gs K mg t_BOUND t_LETTERS t_LONGEST_NAME a_RESERVED a_BadName a_BadNumber a_Change a_ElseputError a_TooLarge a_UnknownField a_UnknownKey a_UnknownName a_UnknownShape) : FnOk P w K mg base CX0 1 f fd ["_law_thing"] (sp__law_is_int K) := by
  refine F.ok sc__law_is_int (fun vs H Q E h => len__law_is_int h) (fun cdv A outer s H vs Q E hr h => ?_)
  obtain ⟨i, rfl, q⟩ := h
  refine ⟨_, (pss_one (ps_ret (pe_andM (pe_callB (isiK K) (by rfl) T.z_isinstance (by decide +kernel) (pa_cons (v_ 0) (pa_cons (pe_bltn (v := .ty "int") (u := .type "int") (by rfl) T.z_int (by decide +kernel) rfl) pa_nil))) (pe_one (pe_notM (pe_callB (isiK K) (by rfl) T.z_isinstance (by decide +kernel) (pa_cons (v_ 0) (pa_cons (pe_bltn (v := .ty "bool") (u := .type "bool") (by rfl) T.z_bool (by decide +kernel) rfl) pa_nil)))))))), ?_⟩
  refine ⟨_, _, _, _, true, rfl, .ty _, .base (.int i), kit_ty (by decide +kernel), ?_⟩
  exact ⟨_, _, _, _, false, rfl, .ty _, .base (.int i), kit_ty (by decide +kernel), q⟩
def SameV (H : Hp) : Nat → V → V → Prop
  | 0, _, _ => False
  | n + 1, x, y => (∃ i : Int, x = .int i ∧ y = .int i) ∨ (∃ z : Str, x = .str z ∧ y = .str z) ∨ (∃ (p q : Addr) (xs ys : List V), x = .ref p ∧ y = .ref q ∧ ((H p = some (.lst xs) ∧ H q = some (.lst ys)) ∨ (H p = some (.tup xs) ∧ H q = some (.tup ys))) ∧
      xs.length = ys.length ∧ ys.length ≤ 1000 ∧ ∀ (i : Nat) (a b : V), xs[i]? = some a → ys[i]? = some b → SameV H n a b) ∨
      ∃ (p q : Addr) (ks ls : Ct), x = .ref p ∧ y = .ref q ∧ H p = some (.dK ks) ∧ H q = some (.dK ls) ∧ ks.length = ls.length ∧ n ≠ 0 ∧ ∀ (i : Nat) (k : Key) (v : V), ls[i]? = some (k, v) → ∃ m : Int, valV ls k = some (.int m) ∧ valV ks k = some (.int m)
def spSame (n : Nat) : Sp := fun vs H Q _ => ∃ x y : V, vs = [x, y] ∧ SameV H n x y ∧ Q (.bl true) H
theorem len_same {n : Nat} {vs : List V} {H : Hp} {Q : VK} {E : XK} (h : spSame n vs H Q E) : vs.length = 2 := by
  obtain ⟨_, _, rfl, _⟩ := h
  rfl
theorem same_step {n k : Nat} {f : Addr} {fd : FuncData} {f__law_is_int : Addr} {fd__law_is_int : FuncData} (F : Fun K "_law_same" "_law_same" s__law_same f fd) (T : Gs K mg t_BOUND t_LETTERS t_LONGEST_NAME a_RESERVED a_BadName a_BadNumber a_Change a_ElseputError a_TooLarge a_UnknownField a_UnknownKey a_UnknownName a_UnknownShape)
    (c__law_is_int : Cal P w K mg base CX0 1 "_law_is_int" f__law_is_int fd__law_is_int ["_law_thing"] (sp__law_is_int K)) (c__law_same : Cal P w K mg base CX0 k "_law_same" f fd ["_law_actual", "_law_due"] (spSame n)) (hk : 1 ≤ k) : FnOk P w K mg base CX0 (k + 1) f fd ["_law_actual", "_law_due"] (spSame (n + 1)) := by
  refine F.ok sc__law_same (fun vs H Q E h => len_same h) (fun cdv A outer s H vs Q E hr h => ?_)
  obtain ⟨x, y, rfl, h, q⟩ := h
  refine ⟨_, (pss_cons (ps_if (pt_c op_isM (v_ 1) pe_non) (pss_one (ps_ret (pe_c op_isM (v_ 0) pe_non))) pss_nil) (pss_cons (ps_if (pt_c op_isM (v_ 1) pe_bl) (pss_one (ps_ret (pe_c op_isM (v_ 0) pe_bl))) pss_nil) (pss_cons (ps_if (pt_c op_isM (v_ 1) pe_bl) (pss_one (ps_ret (pe_c op_isM (v_ 0) pe_bl))) pss_nil) (pss_cons (ps_if (pt_t K (pe_callB (isiK K) (by rfl) T.z_isinstance (by decide +kernel) (pa_cons (v_ 1) (pa_cons (pe_bltn (v := .ty "int") (u := .type "int") (by rfl) T.z_int (by decide +kernel) rfl) pa_nil)))) (pss_one (ps_ret (pe_andM (pe_call c__law_is_int.G (hr.mono (by first | decide | omega)) rfl c__law_is_int.m c__law_is_int.kp c__law_is_int.b .nil pass0 (pa_cons (v_ 0) pa_nil)) (pe_one (pe_c (eqK K hr.units) (v_ 0) (v_ 1)))))) pss_nil) (pss_cons (ps_if (pt_t K (pe_callB (isiK K) (by rfl) T.z_isinstance (by decide +kernel) (pa_cons (v_ 1) (pa_cons (pe_bltn (v := .ty "str") (u := .type "str") (by rfl) T.z_str (by decide +kernel) rfl) pa_nil)))) (pss_one (ps_ret (pe_andM (pe_callB (isiK K) (by rfl) T.z_isinstance (by decide +kernel) (pa_cons (v_ 0) (pa_cons (pe_bltn (v := .ty "str") (u := .type "str") (by rfl) T.z_str (by decide +kernel) rfl) pa_nil))) (pe_one (pe_c (eqK K hr.units) (v_ 0) (v_ 1)))))) pss_nil) (pss_cons (ps_if (pt_t K (pe_callB (isiK K) (by rfl) T.z_isinstance (by decide +kernel) (pa_cons (v_ 1) (pa_cons (pe_bltn (v := .ty "dict") (u := .type "dict") (by rfl) T.z_dict (by decide +kernel) rfl) pa_nil)))) (pss_cons (ps_if (PW.pt (pw_or (pt_not (pt_t K (pe_callB (isiK K) (by rfl) T.z_isinstance (by decide +kernel) (pa_cons (v_ 0) (pa_cons (pe_bltn (v := .ty "dict") (u := .type "dict") (by rfl) T.z_dict (by decide +kernel) rfl) pa_nil))))) (pw_or1 (pt_c (neK K hr.units) (pe_callB (lenK K) (by rfl) T.z_len PySem.boot_len (pa_cons (v_ 0) pa_nil)) (pe_callB (lenK K) (by rfl) T.z_len PySem.boot_len (pa_cons (v_ 1) pa_nil)))))) (pss_one (ps_ret pe_bl)) pss_nil) (pss_cons (ps_lock (ps_for PassesOwn.never rfl (pi_keys (v_ 1)) (pg_name (i := 3) sc__law_same.nd rfl (.inl rfl)) (pss_one (ps_if (PW.pt (pw_or (pt_cmp (pc_dnotin (hu_of hr) (v_ 3) (v_ 0))) (pw_or1 (pt_not (pt_t K (pe_call c__law_same.G (hr.mono (by first | decide | omega)) rfl c__law_same.m c__law_same.kp c__law_same.b .nil pass0 (pa_cons (pe_dget (hu_of hr) (v_ 0) (v_ 3) (fun _ _ => rfl)) (pa_cons (pe_dget (hu_of hr) (v_ 1) (v_ 3) (fun _ _ => rfl)) pa_nil)))))))) (pss_one (ps_ret pe_bl)) pss_nil)))) (pss_one (ps_ret pe_bl)))) pss_nil) (pss_cons (ps_if (PW.pt (pw_and (pt_t K (pe_callB (isiK K) (by rfl) T.z_isinstance (by decide +kernel) (pa_cons (v_ 1) (pa_cons (pe_bltn (v := .ty "list") (u := .type "list") (by rfl) T.z_list (by decide +kernel) rfl) pa_nil)))) (pw_and1 (pt_not (pt_t K (pe_callB (isiK K) (by rfl) T.z_isinstance (by decide +kernel) (pa_cons (v_ 0) (pa_cons (pe_bltn (v := .ty "list") (u := .type "list") (by rfl) T.z_list (by decide +kernel) rfl) pa_nil)))))))) (pss_one (ps_ret pe_bl)) pss_nil) (pss_cons (ps_if (PW.pt (pw_and (pt_t K (pe_callB (isiK K) (by rfl) T.z_isinstance (by decide +kernel) (pa_cons (v_ 1) (pa_cons (pe_bltn (v := .ty "tuple") (u := .type "tuple") (by rfl) T.z_tuple (by decide +kernel) rfl) pa_nil)))) (pw_and1 (pt_not (pt_t K (pe_callB (isiK K) (by rfl) T.z_isinstance (by decide +kernel) (pa_cons (v_ 0) (pa_cons (pe_bltn (v := .ty "tuple") (u := .type "tuple") (by rfl) T.z_tuple (by decide +kernel) rfl) pa_nil)))))))) (pss_one (ps_ret pe_bl)) pss_nil) (pss_cons (ps_if (pt_c (neK K hr.units) (pe_callB (lenK K) (by rfl) T.z_len PySem.boot_len (pa_cons (v_ 0) pa_nil)) (pe_callB (lenK K) (by rfl) T.z_len PySem.boot_len (pa_cons (v_ 1) pa_nil))) (pss_one (ps_ret pe_bl)) pss_nil) (pss_cons (ps_for PassesOwn.never rfl (pi_range1 rfl T.z_range (pa_cons (pe_callB (lenK K) (by rfl) T.z_len PySem.boot_len (pa_cons (v_ 1) pa_nil)) pa_nil)) (pg_name (i := 2) sc__law_same.nd rfl (.inl rfl)) (pss_one (ps_if (pt_not (pt_t K (pe_call c__law_same.G (hr.mono (by first | decide | omega)) rfl c__law_same.m c__law_same.kp c__law_same.b .nil pass0 (pa_cons (e_x K (v_ 0) (v_ 2)) (pa_cons (e_x K (v_ 1) (v_ 2)) pa_nil))))) (pss_one (ps_ret pe_bl)) pss_nil))) (pss_one (ps_ret pe_bl)))))))))))), ?_⟩
  rcases h with ⟨i, rfl, rfl⟩ | ⟨z, rfl, rfl⟩ | ⟨a, b, xs, ys, rfl, rfl, hh, hl, h1, hs⟩ | ⟨a, b, ks, ls, rfl, rfl, ha, hb, hl, hn, hs⟩
  · refine ⟨_, _, _, _, true, rfl, .ty _, .base (.int i), kit_ty (by decide +kernel), ?_⟩
    refine ⟨i, rfl, ?_⟩
    have e : decide (i = i) = true := decide_eq_true rfl
    rw [← e] at q
    exact q
  · refine ⟨_, _, _, _, false, rfl, .ty _, .base (.str z), kit_ty (by decide +kernel), ?_⟩
    refine ⟨_, _, _, _, true, rfl, .ty _, .base (.str z), kit_ty (by decide +kernel), ?_⟩
    refine ⟨_, _, _, _, true, rfl, .ty _, .base (.str z), kit_ty (by decide +kernel), ?_⟩
    have e : decide (z = z) = true := decide_eq_true rfl
    rw [← e] at q
    exact q
  · rcases hh with ⟨ha, hb⟩ | ⟨ha, hb⟩
    · have tb : TyX K H (.ref b) (.type "list") := .base (.lst hb)
      refine ⟨_, _, _, _, false, rfl, .ty _, tb, kit_ty (by decide +kernel), ?_⟩
      refine ⟨_, _, _, _, false, rfl, .ty _, tb, kit_ty (by decide +kernel), ?_⟩
      refine ⟨_, _, _, _, false, rfl, .ty _, tb, kit_ty (by decide +kernel), ?_⟩
      refine ⟨_, _, _, _, true, rfl, .ty _, tb, kit_ty (by decide +kernel), ?_⟩
      refine ⟨_, _, _, _, true, rfl, .ty _, .base (.lst ha), kit_ty (by decide +kernel), ?_⟩
      refine ⟨_, _, _, _, false, rfl, .ty _, tb, kit_ty (by decide +kernel), ?_⟩
      refine .inl ⟨_, .inl (SqL.of ha), .inl ⟨_, .inl (SqL.of hb), ?_⟩⟩
      refine ite2 (fun e => ?_) (fun _ => ?_)
      · exact absurd e (by rw [hl]; simp)
      refine .inl ⟨_, .inl (SqL.of hb), _, rfl, by omega, by omega, ?_⟩
      refine for_range (lo := 0) (n := ys.length) (fun i σ' H' => H' = H ∧ ∃ y, σ' = [some (.ref a), some (.ref b), y, none]) ⟨rfl, _, rfl⟩ ?_ ?_
      · rintro i σ' H' hi ⟨rfl, y, rfl⟩
        have ex := List.getElem?_eq_getElem (l := xs) (i := i) (by omega)
        have ey := List.getElem?_eq_getElem (l := ys) hi
        refine ⟨_, .inl (SqL.of ha), xs[i], ?_, _, .inl (SqL.of hb), ys[i], ?_, _, _, rfl, hs i _ _ ex ey, ?_⟩
        · rw [show (0 : Int) + i = ((i : Nat) : Int) by omega]
          exact atI_nat ex
        · rw [show (0 : Int) + i = ((i : Nat) : Int) by omega]
          exact atI_nat ey
        exact ⟨rfl, _, rfl⟩
      · rintro σ' H' ⟨rfl, y, rfl⟩
        exact q
    · have tb : TyX K H (.ref b) (.type "tuple") := .base (.tup hb)
      refine ⟨_, _, _, _, false, rfl, .ty _, tb, kit_ty (by decide +kernel), ?_⟩
      refine ⟨_, _, _, _, false, rfl, .ty _, tb, kit_ty (by decide +kernel), ?_⟩
      refine ⟨_, _, _, _, false, rfl, .ty _, tb, kit_ty (by decide +kernel), ?_⟩
      refine ⟨_, _, _, _, false, rfl, .ty _, tb, kit_ty (by decide +kernel), ?_⟩
      refine ⟨_, _, _, _, true, rfl, .ty _, tb, kit_ty (by decide +kernel), ?_⟩
      refine ⟨_, _, _, _, true, rfl, .ty _, .base (.tup ha), kit_ty (by decide +kernel), ?_⟩
      refine .inl ⟨_, .inr (SqT.of ha), .inl ⟨_, .inr (SqT.of hb), ?_⟩⟩
      refine ite2 (fun e => ?_) (fun _ => ?_)
      · exact absurd e (by rw [hl]; simp)
      refine .inl ⟨_, .inr (SqT.of hb), _, rfl, by omega, by omega, ?_⟩
      refine for_range (lo := 0) (n := ys.length) (fun i σ' H' => H' = H ∧ ∃ y, σ' = [some (.ref a), some (.ref b), y, none]) ⟨rfl, _, rfl⟩ ?_ ?_
      · rintro i σ' H' hi ⟨rfl, y, rfl⟩
        have ex := List.getElem?_eq_getElem (l := xs) (i := i) (by omega)
        have ey := List.getElem?_eq_getElem (l := ys) hi
        refine ⟨_, .inr (SqT.of ha), xs[i], ?_, _, .inr (SqT.of hb), ys[i], ?_, _, _, rfl, hs i _ _ ex ey, ?_⟩
        · rw [show (0 : Int) + i = ((i : Nat) : Int) by omega]
          exact atI_nat ex
        · rw [show (0 : Int) + i = ((i : Nat) : Int) by omega]
          exact atI_nat ey
        exact ⟨rfl, _, rfl⟩
      · rintro σ' H' ⟨rfl, y, rfl⟩
        exact q
  · have tb : TyX K H (.ref b) (.type "dict") := .base (.dK hb)
    refine ⟨_, _, _, _, false, rfl, .ty _, tb, kit_ty (by decide +kernel), ?_⟩
    refine ⟨_, _, _, _, false, rfl, .ty _, tb, kit_ty (by decide +kernel), ?_⟩
    refine ⟨_, _, _, _, true, rfl, .ty _, tb, kit_ty (by decide +kernel), ?_⟩
    refine ⟨_, _, _, _, true, rfl, .ty _, .base (.dK ha), kit_ty (by decide +kernel), ?_⟩
    refine .inr ⟨_, ha, .inr ⟨_, hb, ?_⟩⟩
    refine ite2 (fun e => absurd e (by rw [hl]; simp)) (fun _ => ?_)
    refine ⟨b, .dK ls, hb, True.intro, fun od => ?_⟩
    refine ⟨b, od, rfl, .inl ⟨ls, upd_same, ?_⟩⟩
    have rb : Rd (upd H b (.frz od (.dK ls))) b (.dK ls) := .inr ⟨od, upd_same⟩
    have ra : ∃ ks', ks' = ks ∧ Rd (upd H b (.frz od (.dK ls))) a (.dK ks') := by
      by_cases e : a = b
      · rw [e, hb] at ha
        cases ha
        exact ⟨_, rfl, e ▸ rb⟩
      · exact ⟨ks, rfl, .inl (by rw [upd_ne e]; exact ha)⟩
    obtain ⟨_, rfl, ra⟩ := ra
    refine for_it walk_keys (fun i σ' H' => H' = upd H b (.frz od (.dK ls)) ∧ ∃ y, σ' = [some (.ref a), some (.ref b), none, y]) ⟨rfl, _, rfl⟩ (fun i σ' H' _ h => by rw [h.1]; exact upd_same) ?_ ?_
    · rintro i x σ' H2 H3 hi ⟨rfl, y, rfl⟩ ⟨rfl, k, v, hk, rfl⟩
      obtain ⟨m, h1, h2⟩ := hs i k v hk
      have ga : DGet (upd H b (.frz od (.dK ls))) a (kV k) (some (.int m)) := .inl ⟨_, k, ra, rfl, h2.symm⟩
      have gb : DGet (upd H b (.frz od (.dK ls))) b (kV k) (some (.int m)) := .inl ⟨_, k, rb, rfl, h1.symm⟩
      refine ⟨a, _, rfl, ga, _, rfl, ?_⟩
      refine ⟨a, _, rfl, ga, b, _, rfl, gb, _, _, rfl, ?_, ?_⟩
      · cases n with
        | zero => exact absurd rfl hn
        | succ n => exact .inl ⟨m, rfl, rfl⟩
      · exact ⟨rfl, _, rfl⟩
    · rintro σ' H2 ⟨rfl, y, rfl⟩
      refine ⟨upd_same, ?_⟩
      rw [upd_upd, upd_id hb]
      exact q
theorem same_all {f : Addr} {fd : FuncData} {f__law_is_int : Addr} {fd__law_is_int : FuncData} (F : Fun K "_law_same" "_law_same" s__law_same f fd) (T : Gs K mg t_BOUND t_LETTERS t_LONGEST_NAME a_RESERVED a_BadName a_BadNumber a_Change a_ElseputError a_TooLarge a_UnknownField a_UnknownKey a_UnknownName a_UnknownShape)
    (c__law_is_int : Cal P w K mg base CX0 1 "_law_is_int" f__law_is_int fd__law_is_int ["_law_thing"] (sp__law_is_int K)) (b : Binds K fd ["_law_actual", "_law_due"] []) (kp : PySem.W.keepIn K (.ref f) = true) (m : mg "_law_same" = some (.ref f)) :
    ∀ n : Nat, FnOk P w K mg base CX0 (n + 2) f fd ["_law_actual", "_law_due"] (spSame n)
  | 0 => ⟨fun _ _ _ _ h => len_same h, by
    intro A outer s H args us vs Q E _ _ _ _ h
    obtain ⟨_, _, _, h, _⟩ := h
    exact False.elim h⟩
  | n + 1 => same_step F T c__law_is_int ⟨same_all F T c__law_is_int b kp m n, b, kp, m⟩ (by omega)
def sp__law_same (K : PySem.W.Frag) : Sp := spSame 4
theorem ok__law_same {f : Addr} {fd : FuncData} {f__law_is_int : Addr} {fd__law_is_int : FuncData} (F : Fun K "_law_same" "_law_same" s__law_same f fd) (T : Gs K mg t_BOUND t_LETTERS t_LONGEST_NAME a_RESERVED a_BadName a_BadNumber a_Change a_ElseputError a_TooLarge a_UnknownField a_UnknownKey a_UnknownName a_UnknownShape)
    (c__law_is_int : Cal P w K mg base CX0 1 "_law_is_int" f__law_is_int fd__law_is_int ["_law_thing"] (sp__law_is_int K)) (b : Binds K fd ["_law_actual", "_law_due"] []) (kp : PySem.W.keepIn K (.ref f) = true) (m : mg "_law_same" = some (.ref f)) :
    FnOk P w K mg base CX0 6 f fd ["_law_actual", "_law_due"] (sp__law_same K) := same_all F T c__law_is_int b kp m 4

end
section
variable {P : Program} {w : World} {K : PySem.W.Frag} {mg : Str → Option Value} {base : Heap}
variable {t_BOUND t_LETTERS t_LONGEST_NAME : Tok} {a_RESERVED a_BadName a_BadNumber a_Change a_ElseputError a_TooLarge a_UnknownField a_UnknownKey a_UnknownName a_UnknownShape : Addr}
def Bd (i : Int) : Prop := -1000000000000000000000000000000 ≤ i ∧ i ≤ 1000000000000000000000000000000
def sp__law_number (K : PySem.W.Frag) : Sp := fun vs H Q _ => ∃ (st scr : Addr), vs = [.ref st] ∧ DrAt H st scr ∧ ∀ (l : List V) (i : Int), Bd i → DrAt (upd H st (.lst l)) st scr → Q (.int i) (upd H st (.lst l))
theorem len__law_number {vs : List V} {H : Hp} {Q : VK} {E : XK} (h : sp__law_number K vs H Q E) : vs.length = 1 := by
  obtain ⟨_, _, rfl, _⟩ := h
  rfl
theorem p30 : (10 : Int) ^ (30 : Int).toNat = 1000000000000000000000000000000 := by decide +kernel
theorem ok__law_number {f : Addr} {fd : FuncData} {f__law_draw : Addr} {fd__law_draw : FuncData} (F : Fun K "_law_number" "_law_number" s__law_number f fd) (T : Gs K mg t_BOUND t_LETTERS t_LONGEST_NAME a_RESERVED a_BadName a_BadNumber a_Change a_ElseputError a_TooLarge a_UnknownField a_UnknownKey a_UnknownName a_UnknownShape) (c__law_draw : Cal P w K mg base CX0 1 "_law_draw" f__law_draw fd__law_draw ["_law_state_here", "_law_many"] (sp__law_draw K)) : FnOk P w K mg base CX0 2 f fd ["_law_state_here"] (sp__law_number K) := by
  refine F.ok sc__law_number (fun vs H Q E h => len__law_number h) (fun cdv A outer s H vs Q E hr h => ?_)
  obtain ⟨st, scr, rfl, hd, q⟩ := h
  refine ⟨_, (pss_cons (ps_set (i := 1) sc__law_number.nd rfl (.inl rfl) (pe_call c__law_draw.G (hr.mono (by first | decide | omega)) rfl c__law_draw.m c__law_draw.kp c__law_draw.b .nil pass0 (pa_cons (v_ 0) (pa_cons pe_int pa_nil)))) (pss_cons (ps_if (pt_c op_ltM (v_ 1) pe_int) (pss_one (ps_ret (pe_op op_subM (pe_call c__law_draw.G (hr.mono (by first | decide | omega)) rfl c__law_draw.m c__law_draw.kp c__law_draw.b .nil pass0 (pa_cons (v_ 0) (pa_cons pe_int pa_nil))) pe_int))) pss_nil) (pss_cons (ps_if (pt_c (eqK K hr.units) (v_ 1) pe_int) (pss_one (ps_ret (pe_op op_subM (pe_call c__law_draw.G (hr.mono (by first | decide | omega)) rfl c__law_draw.m c__law_draw.kp c__law_draw.b .nil pass0 (pa_cons (v_ 0) (pa_cons pe_int pa_nil))) pe_int))) pss_nil) (pss_cons (ps_if (pt_c (eqK K hr.units) (v_ 1) pe_int) (pss_one (ps_ret (pe_op op_subM (pe_op op_powM pe_int pe_int) (pe_call c__law_draw.G (hr.mono (by first | decide | omega)) rfl c__law_draw.m c__law_draw.kp c__law_draw.b .nil pass0 (pa_cons (v_ 0) (pa_cons pe_int pa_nil)))))) pss_nil) (pss_cons (ps_if (pt_c (eqK K hr.units) (v_ 1) pe_int) (pss_one (ps_ret (pe_op op_subM (pe_call c__law_draw.G (hr.mono (by first | decide | omega)) rfl c__law_draw.m c__law_draw.kp c__law_draw.b .nil pass0 (pa_cons (v_ 0) (pa_cons pe_int pa_nil))) (pe_op op_powM pe_int pe_int)))) pss_nil) (pss_one (ps_ret (pe_op op_subM (pe_call c__law_draw.G (hr.mono (by first | decide | omega)) rfl c__law_draw.m c__law_draw.kp c__law_draw.b .nil pass0 (pa_cons (v_ 0) (pa_cons (pe_op (addK K) (pe_op op_mulSM pe_int (pe_op op_powM pe_int pe_int)) pe_int) pa_nil))) (pe_op op_powM pe_int pe_int))))))))), ?_⟩
  refine ⟨st, scr, _, rfl, hd, by decide, many_small (by decide) (by decide), fun kd l _ _ hd1 => ?_⟩
  have q : ∀ (l2 : List V) (i : Int), Bd i → DrAt (upd (upd H st (.lst l)) st (.lst l2)) st scr → Q (.int i) (upd (upd H st (.lst l)) st (.lst l2)) := fun l2 i b d => by
    rw [upd_upd] at d ⊢
    exact q l2 i b d
  generalize upd H st (.lst l) = H1 at hd1 q ⊢
  refine ite2 (fun e => ?_) (fun e => ?_)
  · refine ⟨st, scr, _, rfl, hd1, by decide, many_small (by decide) (by decide), fun r l2 r0 r1 hd2 => ?_⟩
    exact q l2 _ (by unfold Bd; omega) hd2
  refine ite2 (fun e => ?_) (fun e => ?_)
  · refine ⟨st, scr, _, rfl, hd1, by decide, many_small (by decide) (by decide), fun r l2 r0 r1 hd2 => ?_⟩
    exact q l2 _ (by unfold Bd; omega) hd2
  refine ite2 (fun e => ?_) (fun e => ?_)
  · refine ⟨(by unfold CPow; decide), ?_⟩
    refine ⟨st, scr, _, rfl, hd1, by decide, many_small (by decide) (by decide), fun r l2 r0 r1 hd2 => ?_⟩
    rw [p30]
    exact q l2 _ (by unfold Bd; omega) hd2
  refine ite2 (fun e => ?_) (fun e => ?_)
  · refine ⟨st, scr, _, rfl, hd1, by decide, many_small (by decide) (by decide), fun r l2 r0 r1 hd2 => ?_⟩
    refine ⟨(by unfold CPow; decide), ?_⟩
    rw [p30]
    exact q l2 _ (by unfold Bd; omega) hd2
  refine ⟨(by unfold CPow; decide), ?_⟩
  rw [p30]
  refine ⟨.inl (.inl ⟨by decide, by decide⟩), ?_⟩
  refine ⟨st, scr, _, rfl, hd1, by decide, by decide +kernel, fun r l2 r0 r1 hd2 => ?_⟩
  refine ⟨(by unfold CPow; decide), ?_⟩
  rw [p30]
  exact q l2 _ (by unfold Bd; omega) hd2
def sp__law_constant (K : PySem.W.Frag) : Sp := sp__law_number K
theorem len__law_constant {vs : List V} {H : Hp} {Q : VK} {E : XK} (h : sp__law_constant K vs H Q E) : vs.length = 1 := len__law_number h
theorem ok__law_constant {f : Addr} {fd : FuncData} {f__law_number : Addr} {fd__law_number : FuncData} {f__law_draw : Addr} {fd__law_draw : FuncData} (F : Fun K "_law_constant" "_law_constant" s__law_constant f fd) (T : Gs K mg t_BOUND t_LETTERS t_LONGEST_NAME a_RESERVED a_BadName a_BadNumber a_Change a_ElseputError a_TooLarge a_UnknownField a_UnknownKey a_UnknownName a_UnknownShape) (c__law_number : Cal P w K mg base CX0 2 "_law_number" f__law_number fd__law_number ["_law_state_here"] (sp__law_number K)) (c__law_draw : Cal P w K mg base CX0 1 "_law_draw" f__law_draw fd__law_draw ["_law_state_here", "_law_many"] (sp__law_draw K)) : FnOk P w K mg base CX0 3 f fd ["_law_state_here"] (sp__law_constant K) := by
  refine F.ok sc__law_constant (fun vs H Q E h => len__law_constant h) (fun cdv A outer s H vs Q E hr h => ?_)
  obtain ⟨st, scr, rfl, hd, q⟩ := h
  refine ⟨_, (pss_cons (ps_if (pt_c op_ltM (pe_call c__law_draw.G (hr.mono (by first | decide | omega)) rfl c__law_draw.m c__law_draw.kp c__law_draw.b .nil pass0 (pa_cons (v_ 0) (pa_cons pe_int pa_nil))) pe_int) (pss_one (ps_ret (pe_op op_subM (pe_call c__law_draw.G (hr.mono (by first | decide | omega)) rfl c__law_draw.m c__law_draw.kp c__law_draw.b .nil pass0 (pa_cons (v_ 0) (pa_cons pe_int pa_nil))) pe_int))) pss_nil) (pss_one (ps_ret (pe_call c__law_number.G (hr.mono (by first | decide | omega)) rfl c__law_number.m c__law_number.kp c__law_number.b .nil pass0 (pa_cons (v_ 0) pa_nil))))), ?_⟩
  refine ⟨st, scr, _, rfl, hd, by decide, many_small (by decide) (by decide), fun kd l _ _ hd1 => ?_⟩
  have q : ∀ (l2 : List V) (i : Int), Bd i → DrAt (upd (upd H st (.lst l)) st (.lst l2)) st scr → Q (.int i) (upd (upd H st (.lst l)) st (.lst l2)) := fun l2 i b d => by
    rw [upd_upd] at d ⊢
    exact q l2 i b d
  refine ite2 (fun e => ?_) (fun e => ?_)
  · refine ⟨st, scr, _, rfl, hd1, by decide, many_small (by decide) (by decide), fun r l2 r0 r1 hd2 => ?_⟩
    exact q l2 _ (by unfold Bd; omega) hd2
  · exact ⟨st, scr, rfl, hd1, fun l2 i b d => q l2 i b d⟩

/-! ### names -/
/-- small letters, of which the one at p is c -/
def Lt (z : Str) (p c : Nat) : Prop := (∀ d ∈ z.cps.toList, d ∈ letters.cps.toList) ∧ z.cps.toList[p]? = some c ∧ z.length ≤ 12
theorem Lt.name {z : Str} {p c : Nat} (h : Lt z p c) (hr : inV (.str z) resv = false) : isName z = true := by
  unfold isName
  have h0 : ¬ ((z.length : Int) < 1) := by
    have := (List.getElem?_eq_some_iff.mp h.2.1).1
    rw [len_cps] at this
    omega
  have h1 : ¬ ((12 : Int) < z.length) := by have := h.2.2; omega
  rw [decide_eq_false h0, decide_eq_false h1, hr]
  show (z.cps.toList.all fun c => decide (c ∈ letters.cps.toList)) = true
  exact List.all_eq_true.mpr fun d hd => decide_eq_true (h.1 d hd)
theorem resv_strs : resv = (["always", "never", "and", "or", "not", "when", "add", "set", "change", "tell", "refuse", "take", "look", "free", "lock", "keep", "keys", "fields"] : List Str).map V.str := rfl
theorem resv_z {z : Str} (h : inV (.str z) resv = true) : inV (.str (z ++ "z")) resv = false ∧ z.length ≤ 7 := by
  rw [resv_strs, inV_str, decide_eq_true_iff] at h
  have all : (["always", "never", "and", "or", "not", "when", "add", "set", "change", "tell", "refuse", "take", "look", "free", "lock", "keep", "keys", "fields"] : List Str).all (fun z => !inV (.str (z ++ "z")) resv && decide (z.length ≤ 7)) = true := by decide +kernel
  have := List.all_eq_true.mp all z h
  rw [Bool.and_eq_true, Bool.not_eq_true', decide_eq_true_iff] at this
  exact this
end
section
variable {P : Program} {w : World} {K : PySem.W.Frag} {mg : Str → Option Value} {base : Heap}
variable {t_BOUND t_LETTERS t_LONGEST_NAME : Tok} {a_RESERVED a_BadName a_BadNumber a_Change a_ElseputError a_TooLarge a_UnknownField a_UnknownKey a_UnknownName a_UnknownShape : Addr}
theorem cutS_take (z : Str) {k : Nat} : (cutS z none (some (k : Int))).cps.toList = z.cps.toList.take k := by
  unfold cutS
  rw [List.toList_toArray, HT.sIx_nat, HT.sIx_none, List.drop_zero, Nat.sub_zero, List.take_eq_take_iff, len_cps]
  omega
theorem cutS_drop (z : Str) {k : Nat} : (cutS z (some (k : Int)) none).cps.toList = z.cps.toList.drop k := by
  unfold cutS
  rw [List.toList_toArray, HT.sIx_nat, HT.sIx_none]
  by_cases h : k ≤ z.length
  · rw [Nat.min_eq_left h, List.take_of_length_le (by rw [List.length_drop, len_cps]; omega)]
  · rw [Nat.min_eq_right (by omega), List.drop_of_length_le (by rw [len_cps]; omega), List.drop_of_length_le (by rw [len_cps]; omega), List.take_nil]
theorem letter_at {i : Int} (h0 : 0 ≤ i) (h1 : i < 26) : atI letters.cps.toList i = some (97 + i.toNat) := by
  have all : ∀ j : Fin 26, letters.cps.toList[j.val]? = some (97 + j.val) := by decide +kernel
  have := all ⟨i.toNat, by omega⟩
  have hq := atI_nat this
  rwa [show ((i.toNat : Nat) : Int) = i by omega] at hq
theorem letter_mem {i : Nat} (h1 : i < 26) : (97 + i) ∈ letters.cps.toList := by
  have all : ∀ j : Fin 26, (97 + j.val) ∈ letters.cps.toList := by decide +kernel
  exact all ⟨i, h1⟩
theorem one_len (c : Nat) : (⟨#[c]⟩ : Str).length = 1 := rfl
theorem one_cps (c : Nat) : (⟨#[c]⟩ : Str).cps.toList = [c] := rfl
theorem Lt.z {z : Str} {p c : Nat} (h : Lt z p c) (hl : z.length ≤ 7) : Lt (z ++ "z") p c := by
  refine ⟨fun d hd => ?_, ?_, ?_⟩
  · rw [cps_add] at hd
    rcases List.mem_append.mp hd with e | e
    · exact h.1 d e
    · have : d = 122 := by simpa using (show d ∈ [122] from e)
      rw [this]
      decide +kernel
  · rw [cps_add, List.getElem?_append_left (List.getElem?_eq_some_iff.mp h.2.1).1]
    exact h.2.1
  · rw [len_add]
    show z.length + 1 ≤ 12
    omega
def sp__law_names (K : PySem.W.Frag) : Sp := fun vs H Q _ => ∃ (st scr : Addr) (n : Nat), vs = [.ref st, .int n] ∧ DrAt H st scr ∧ n ≤ 26 ∧
  ∀ (H' : Hp) (p : Addr) (zs : List Str), Bt st H H' → DrAt H' st scr → H p = none → H' p = some (.lst (zs.map V.str)) → zs.length = n → (∀ z ∈ zs, isName z = true ∧ z.length ≤ 12) → zs.Nodup → Q (.ref p) H'
theorem len__law_names {vs : List V} {H : Hp} {Q : VK} {E : XK} (h : sp__law_names K vs H Q E) : vs.length = 2 := by
  obtain ⟨_, _, _, rfl, _⟩ := h
  rfl
theorem ok__law_names {f : Addr} {fd : FuncData} {f__law_draw : Addr} {fd__law_draw : FuncData} (F : Fun K "_law_names" "_law_names" s__law_names f fd) (T : Gs K mg t_BOUND t_LETTERS t_LONGEST_NAME a_RESERVED a_BadName a_BadNumber a_Change a_ElseputError a_TooLarge a_UnknownField a_UnknownKey a_UnknownName a_UnknownShape) (c__law_draw : Cal P w K mg base CX0 1 "_law_draw" f__law_draw fd__law_draw ["_law_state_here", "_law_many"] (sp__law_draw K)) : FnOk P w K mg base CX0 2 f fd ["_law_state_here", "_law_many"] (sp__law_names K) := by
  refine F.ok sc__law_names (fun vs H Q E h => len__law_names h) (fun cdv A outer s H vs Q E hr h => ?_)
  obtain ⟨st, scr, n, rfl, hd, hn, q⟩ := h
  refine ⟨_, (pss_cons (ps_set (i := 2) sc__law_names.nd rfl (.inl rfl) pe_str) (pss_cons (ps_set (i := 3) sc__law_names.nd rfl (.inl rfl) (pe_call c__law_draw.G (hr.mono (by first | decide | omega)) rfl c__law_draw.m c__law_draw.kp c__law_draw.b .nil pass0 (pa_cons (v_ 0) (pa_cons pe_int pa_nil)))) (pss_cons (ps_set (i := 4) sc__law_names.nd rfl (.inl rfl) (pe_call c__law_draw.G (hr.mono (by first | decide | omega)) rfl c__law_draw.m c__law_draw.kp c__law_draw.b .nil pass0 (pa_cons (v_ 0) (pa_cons pe_int pa_nil)))) (pss_cons (ps_set (i := 5) sc__law_names.nd rfl (.inl rfl) (pe_call c__law_draw.G (hr.mono (by first | decide | omega)) rfl c__law_draw.m c__law_draw.kp c__law_draw.b .nil pass0 (pa_cons (v_ 0) (pa_cons pe_int pa_nil)))) (pss_cons (ps_set (i := 6) sc__law_names.nd rfl (.inl rfl) (pe_call c__law_draw.G (hr.mono (by first | decide | omega)) rfl c__law_draw.m c__law_draw.kp c__law_draw.b .nil pass0 (pa_cons (v_ 0) (pa_cons pe_int pa_nil)))) (pss_cons (ps_set (i := 7) sc__law_names.nd rfl (.inl rfl) pe_str) (pss_cons (ps_for PassesOwn.never rfl (pi_range1 rfl T.z_range (pa_cons pe_int pa_nil)) (pg_name (i := 8) sc__law_names.nd rfl (.inl rfl)) (pss_cons (ps_set (i := 7) sc__law_names.nd rfl (.inl rfl) (pe_op (addK K) (v_ 7) (e_x K (v_ 2) (pe_op op_modM (pe_callTy call_intM (by rfl) T.z_int (by decide +kernel) (pa_cons (v_ 5) pa_nil)) pe_int)))) (pss_one (ps_set (i := 5) sc__law_names.nd rfl (.inl rfl) (pe_op op_divM (pe_callTy call_intM (by rfl) T.z_int (by decide +kernel) (pa_cons (v_ 5) pa_nil)) pe_int))))) (pss_cons (ps_set (i := 9) sc__law_names.nd rfl (.inl rfl) (pe_lst (pa_cons pe_str (pa_cons pe_str (pa_cons pe_str (pa_cons pe_str (pa_cons pe_str (pa_cons pe_str (pa_cons pe_str (pa_cons pe_str (pa_cons pe_str (pa_cons pe_str (pa_cons pe_str (pa_cons pe_str pa_nil)))))))))))))) (pss_cons (ps_set (i := 9) sc__law_names.nd rfl (.inl rfl) (pe_op (addK K) (v_ 9) (pe_lst (pa_cons pe_str (pa_cons pe_str (pa_cons pe_str (pa_cons pe_str (pa_cons pe_str (pa_cons pe_str pa_nil))))))))) (pss_cons (ps_set (i := 10) sc__law_names.nd rfl (.inl rfl) (pe_lst pa_nil)) (pss_cons (ps_for PassesOwn.never rfl (pi_range1 rfl T.z_range (pa_cons (v_ 1) pa_nil)) (pg_name (i := 8) sc__law_names.nd rfl (.inl rfl)) (pss_cons (ps_set (i := 11) sc__law_names.nd rfl (.inl rfl) (e_x K (v_ 2) (pe_op op_modM (pe_callTy call_intM (by rfl) T.z_int (by decide +kernel) (pa_cons (pe_op (addK K) (v_ 4) (pe_op op_mulSM pe_int (v_ 8))) pa_nil)) pe_int))) (Evl.pss_cut (ps_if (pt_c (eqK K hr.units) (v_ 3) pe_int) (pss_one (ps_set (i := 11) sc__law_names.nd rfl (.inl rfl) (pe_op (addK K) (pe_op (addK K) (pe_slice (slK K) (v_ 7) po_none (po_some (v_ 6))) (v_ 11)) (pe_slice (slK K) (v_ 7) (po_some (v_ 6)) po_none)))) pss_nil) (Evl.pss_cut (ps_if (pt_c (eqK K hr.units) (v_ 3) pe_int) (pss_one (ps_set (i := 11) sc__law_names.nd rfl (.inl rfl) (pe_op (addK K) (v_ 11) (pe_slice (slK K) (v_ 7) po_none (po_some (pe_op op_modM (pe_callTy call_intM (by rfl) T.z_int (by decide +kernel) (pa_cons (pe_op (addK K) (pe_op op_mulSM pe_int (v_ 8)) (v_ 6)) pa_nil)) pe_int)))))) pss_nil) (Evl.pss_cut (ps_if (pt_c (eqK K hr.units) (v_ 3) pe_int) (pss_one (ps_set (i := 11) sc__law_names.nd rfl (.inl rfl) (pe_op (addK K) (pe_op (addK K) (pe_slice (slK K) (v_ 7) po_none (po_some pe_int)) (v_ 11)) (v_ 7)))) pss_nil) (Evl.pss_cut (ps_if (pt_c (inK K) (v_ 11) (v_ 9)) (pss_one (ps_set (i := 11) sc__law_names.nd rfl (.inl rfl) (pe_op (addK K) (v_ 11) pe_str))) pss_nil) (pss_one (ps_expr (pe_bm PySem.F.plainAttrs_list PySem.F.slot_list_append PySem.F.type_list_append mt_append (v_ 10) (pa_cons (v_ 11) pa_nil)))))))))) (pss_one (ps_ret (v_ 10)))))))))))))), ?_⟩
  refine ⟨st, scr, _, rfl, hd, by decide, many_small (by decide) (by decide), fun sty l1 s0 s1 hd1 => ?_⟩
  have b1 : Bt st H (upd H st (.lst l1)) := Bt.st
  generalize upd H st (.lst l1) = H1 at hd1 b1 ⊢
  refine ⟨st, scr, _, rfl, hd1, by decide, many_small (by decide) (by decide), fun sh l2 h0 h1 hd2 => ?_⟩
  have b2 := b1.trans (Bt.st (st := st) (o := .lst l2))
  generalize upd H1 st (.lst l2) = H2 at hd2 b2 ⊢
  refine ⟨st, scr, _, rfl, hd2, by decide, many_small (by decide) (by decide), fun cd l3 c0 c1 hd3 => ?_⟩
  have b3 := b2.trans (Bt.st (st := st) (o := .lst l3))
  generalize upd H2 st (.lst l3) = H3 at hd3 b3 ⊢
  refine ⟨st, scr, _, rfl, hd3, by decide, many_small (by decide) (by decide), fun spt l4 p0 p1 hd4 => ?_⟩
  have b4 := b3.trans (Bt.st (st := st) (o := .lst l4))
  generalize upd H3 st (.lst l4) = H4 at hd4 b4 ⊢
  refine ⟨6, rfl, by decide, by decide, ?_⟩
  refine for_range (lo := 0) (n := 6) (fun i σ' H' => ∃ (z : Str) (code : Int) (y : Option V), σ' = [some (.ref st), some (.int n), some (.str letters), some (.int sty), some (.int sh), some (.int code), some (.int spt), some (.str z), y, none, none, none] ∧ H' = H4 ∧ z.length = i ∧ ∀ d ∈ z.cps.toList, d ∈ letters.cps.toList) ?_ ?_ ?_
  · exact ⟨_, _, _, rfl, rfl, rfl, fun _ h => nomatch h⟩
  · rintro i σ' H' hi ⟨z, code, y, rfl, rfl, hz, ha⟩
    refine ⟨by decide, ?_⟩
    have r0 := Int.emod_nonneg code (by decide : (26 : Int) ≠ 0)
    have r1 := Int.emod_lt_of_pos code (by decide : (0 : Int) < 26)
    refine ⟨line_of (by decide +kernel), _, letter_at r0 r1, line_of (by rw [one_len]; omega), ?_⟩
    refine ⟨.inl ⟨by decide, by decide⟩, ?_⟩
    refine ⟨_, _, _, rfl, rfl, by rw [len_add, one_len, hz], fun d hd => ?_⟩
    rw [cps_add, one_cps] at hd
    rcases List.mem_append.mp hd with h | h
    · exact ha d h
    · rw [List.mem_singleton.mp h]
      exact letter_mem (by omega)
  rintro σ' H' ⟨bs, code, y, rfl, rfl, hz, ha⟩
  have hbl : bs.cps.toList.length = 6 := by rw [len_cps]; exact hz
  refine ⟨(by show 12 ≤ sizeLine; decide), fun o no => ?_⟩
  refine ⟨(by show 6 ≤ sizeLine; decide), fun p np => ?_⟩
  have hpo := new_ne np
  refine .inl ⟨_, _, (by rw [upd_ne hpo.symm, upd_same]), upd_same, (by show 18 ≤ sizeLine; decide), fun rv nrv => ?_⟩
  have sm := ((same_new (o := .lst [.str "always", .str "never", .str "and", .str "or", .str "not", .str "when", .str "add", .str "set", .str "change", .str "tell", .str "refuse", .str "take"]) no).trans (same_new (o := .lst [.str "look", .str "free", .str "lock", .str "keep", .str "keys", .str "fields"]) np)).trans (same_new (o := .lst resv) nrv)
  generalize hH5 : upd _ rv _ = H5
  have hrv : H5 rv = some (.lst resv) := by rw [← hH5]; exact upd_same
  have hd5 : DrAt H5 st scr := by rw [← hH5]; exact hd4.new sm
  have b5 : Bt st H H5 := by rw [← hH5]; exact b4.trans (Bt.same (st := st) sm)
  clear hH5
  refine ⟨Nat.zero_le _, fun L nL => ?_⟩
  generalize hH6 : upd _ L _ = H6
  have hrv2 : H6 rv = some (.lst resv) := by rw [← hH6]; exact same_new nL _ _ hrv
  have hd6 : DrAt H6 st scr := by rw [← hH6]; exact hd5.new (same_new nL)
  have b6 : Bt st H H6 := by rw [← hH6]; exact b5.trans (Bt.same (st := st) (same_new nL))
  have L0 : H L = none := b5.free (hd5.ne_new nL) nL
  have eL : H6 L = some (.lst []) := by rw [← hH6]; exact upd_same
  have Ls : L ≠ st := hd5.ne_new nL
  have Lc : L ≠ scr := hd5.ne_scr nL
  have Lrv : rv ≠ L := ne_of_none hrv nL
  clear hH6
  refine ⟨n, rfl, by omega, by omega, ?_⟩
  obtain ⟨ps, hps⟩ : ∃ ps : Nat, ps = if sty = 1 then spt.toNat else if sty = 3 then 5 else 0 := ⟨_, rfl⟩
  refine for_range (lo := 0) (n := n) (fun i σ' H' => ∃ (y z : Option V) (zs : List Str), σ' = [some (.ref st), some (.int n), some (.str letters), some (.int sty), some (.int sh), some (.int code), some (.int spt), some (.str bs), y, some (.ref rv), some (.ref L), z] ∧ H' = upd H6 L (.lst (zs.map V.str)) ∧ zs.length = i ∧
    ∀ (j : Nat) (z : Str), zs[j]? = some z → Lt z ps (97 + ((sh + 7 * (j : Int)) % 26).toNat) ∧ inV (.str z) resv = false) ?_ ?_ ?_
  · exact ⟨_, _, [], rfl, (upd_id eL).symm, rfl, fun j z h => nomatch h⟩
  · rintro i σ' H' hi ⟨y, z, zs, rfl, rfl, hzl, hzs⟩
    have r0 := Int.emod_nonneg (sh + 7 * (0 + (i : Int))) (by decide : (26 : Int) ≠ 0)
    have r1 := Int.emod_lt_of_pos (sh + 7 * (0 + (i : Int))) (by decide : (0 : Int) < 26)
    refine ⟨.inl (.inl ⟨by decide, by decide⟩), by decide, ?_⟩
    refine ⟨line_of (by decide +kernel), _, letter_at r0 r1, ?_⟩
    have hcm := letter_mem (i := ((sh + 7 * (0 + (i : Int))) % 26).toNat) (by omega)
    rw [Int.zero_add] at hcm r0 r1 ⊢
    generalize hcc : 97 + ((sh + 7 * (i : Int)) % 26).toNat = ch at hcm ⊢
    have hrv3 : (upd H6 L (.lst (zs.map V.str))) rv = some (.lst resv) := by rw [upd_ne Lrv]; exact hrv2
    refine ⟨fun σ' H' => ∃ w : Str, σ' = [some (.ref st), some (.int n), some (.str letters), some (.int sty), some (.int sh), some (.int code), some (.int spt), some (.str bs), some (.int i), some (.ref rv), some (.ref L), some (.str w)] ∧ H' = upd H6 L (.lst (zs.map V.str)) ∧ (sty = 1 → Lt w ps ch) ∧ (sty ≠ 1 → w = ⟨#[ch]⟩), ?_, ?_⟩
    · refine ite2 (fun e => ?_) (fun e => ?_)
      · have e : sty = 1 := of_decide_eq_true e
        have l1 := cutS_length bs none (some spt)
        have l2 := cutS_length bs (some spt) none
        have e1 := cutS_take bs (k := spt.toNat)
        have e2 := cutS_drop bs (k := spt.toNat)
        rw [show ((spt.toNat : Nat) : Int) = spt by omega] at e1 e2
        refine ⟨_, rfl, line_of (by omega), line_of (by rw [one_len]; omega), _, rfl, line_of (by omega), line_of (by rw [len_add, one_len]; omega), ?_⟩
        refine ⟨_, rfl, rfl, fun _ => ⟨fun d hd => ?_, ?_, ?_⟩, fun h => absurd e h⟩
        · rw [cps_add, cps_add, e1, e2, one_cps] at hd
          rcases List.mem_append.mp hd with h | h
          · rcases List.mem_append.mp h with h | h
            · exact ha d (List.mem_of_mem_take h)
            · rw [List.mem_singleton.mp h]; exact hcm
          · exact ha d (List.mem_of_mem_drop h)
        · have hps1 : ps = spt.toNat := by rw [hps, if_pos e]
          rw [cps_add, cps_add, e1, e2, one_cps, hps1, List.append_assoc, List.getElem?_append_right (by rw [List.length_take]; omega), List.length_take, hbl, Nat.min_eq_left (by omega), Nat.sub_self]
          rfl
        · rw [len_add, len_add, ← len_cps (cutS bs none (some spt)), ← len_cps (cutS bs (some spt) none), e1, e2, one_len, List.length_take, List.length_drop]
          omega
      · have e : ¬ sty = 1 := of_decide_eq_false (Bool.eq_false_iff.mpr e)
        exact ⟨_, rfl, rfl, fun h => absurd h e, fun _ => rfl⟩
    rintro σ' H' ⟨w, rfl, rfl, g1, g2⟩
    refine ⟨fun σ' H' => ∃ w : Str, σ' = [some (.ref st), some (.int n), some (.str letters), some (.int sty), some (.int sh), some (.int code), some (.int spt), some (.str bs), some (.int i), some (.ref rv), some (.ref L), some (.str w)] ∧ H' = upd H6 L (.lst (zs.map V.str)) ∧ (sty ≠ 3 → Lt w ps ch) ∧ (sty = 3 → w = ⟨#[ch]⟩), ?_, ?_⟩
    · refine ite2 (fun e => ?_) (fun e => ?_)
      · have e : sty = 2 := of_decide_eq_true e
        have hw := g2 (by omega)
        subst hw
        have r2 := Int.emod_nonneg (3 * (i : Int) + spt) (by decide : (7 : Int) ≠ 0)
        have e1 := cutS_take bs (k := ((3 * (i : Int) + spt) % 7).toNat)
        rw [show ((((3 * (i : Int) + spt) % 7).toNat : Nat) : Int) = (3 * (i : Int) + spt) % 7 by omega] at e1
        have l1 := cutS_length bs none (some ((3 * (i : Int) + spt) % 7))
        refine ⟨.inl (.inl ⟨by decide, by decide⟩), by decide, _, rfl, line_of (by omega), line_of (by rw [one_len]; omega), ?_⟩
        refine ⟨_, rfl, rfl, fun _ => ⟨fun d hd => ?_, ?_, ?_⟩, fun h => absurd h (by omega)⟩
        · rw [cps_add, e1, one_cps] at hd
          rcases List.mem_append.mp hd with h | h
          · rw [List.mem_singleton.mp h]; exact hcm
          · exact ha d (List.mem_of_mem_take h)
        · have hps1 : ps = 0 := by rw [hps, if_neg (by omega), if_neg (by omega)]
          rw [cps_add, one_cps, hps1]
          rfl
        · rw [len_add, one_len]
          omega
      · have e : ¬ sty = 2 := of_decide_eq_false (Bool.eq_false_iff.mpr e)
        refine ⟨w, rfl, rfl, fun h3 => ?_, fun h3 => g2 (by omega)⟩
        by_cases h1 : sty = 1
        · exact g1 h1
        · have hw := g2 h1
          subst hw
          refine ⟨fun d hd => ?_, ?_, by rw [one_len]; decide⟩
          · rw [List.mem_singleton.mp hd]; exact hcm
          · have hps1 : ps = 0 := by rw [hps, if_neg h1, if_neg h3]
            rw [hps1]
            rfl
    rintro σ' H' ⟨w, rfl, rfl, g1, g2⟩
    refine ⟨fun σ' H' => ∃ w : Str, σ' = [some (.ref st), some (.int n), some (.str letters), some (.int sty), some (.int sh), some (.int code), some (.int spt), some (.str bs), some (.int i), some (.ref rv), some (.ref L), some (.str w)] ∧ H' = upd H6 L (.lst (zs.map V.str)) ∧ Lt w ps ch, ?_, ?_⟩
    · refine ite2 (fun e => ?_) (fun e => ?_)
      · have e : sty = 3 := of_decide_eq_true e
        have hw := g2 e
        subst hw
        have e1 := cutS_take bs (k := 5)
        have l1 := cutS_length bs none (some 5)
        refine ⟨_, rfl, line_of (by omega), line_of (by rw [one_len]; omega), line_of (by rw [len_add, one_len]; omega), ?_⟩
        refine ⟨_, rfl, rfl, fun d hd => ?_, ?_, ?_⟩
        · rw [cps_add, cps_add, show (cutS bs none (some (5 : Int))).cps.toList = bs.cps.toList.take 5 from e1, one_cps] at hd
          rcases List.mem_append.mp hd with h | h
          · rcases List.mem_append.mp h with h | h
            · exact ha d (List.mem_of_mem_take h)
            · rw [List.mem_singleton.mp h]; exact hcm
          · exact ha d h
        · have hps1 : ps = 5 := by rw [hps, if_neg (by omega), if_pos e]
          rw [cps_add, cps_add, show (cutS bs none (some (5 : Int))).cps.toList = bs.cps.toList.take 5 from e1, one_cps, hps1, List.append_assoc, List.getElem?_append_right (by rw [List.length_take]; omega), List.length_take, hbl]
          rfl
        · rw [len_add, len_add, ← len_cps (cutS bs none (some (5 : Int))), show (cutS bs none (some (5 : Int))).cps.toList = bs.cps.toList.take 5 from e1, one_len, List.length_take]
          omega
      · have e : ¬ sty = 3 := of_decide_eq_false (Bool.eq_false_iff.mpr e)
        exact ⟨w, rfl, rfl, g1 e⟩
    rintro σ' H' ⟨w, rfl, rfl, g1⟩
    refine ⟨fun σ' H' => ∃ w : Str, σ' = [some (.ref st), some (.int n), some (.str letters), some (.int sty), some (.int sh), some (.int code), some (.int spt), some (.str bs), some (.int i), some (.ref rv), some (.ref L), some (.str w)] ∧ H' = upd H6 L (.lst (zs.map V.str)) ∧ Lt w ps ch ∧ inV (.str w) resv = false, ?_, ?_⟩
    · refine ⟨_, .inl (SqL.of hrv3), rfl, rfl, ?_⟩
      refine ite2 (fun e => ?_) (fun e => ?_)
      · have e : inV (.str w) resv = true := e
        obtain ⟨z1, z2⟩ := resv_z e
        exact ⟨line_of (by show w.length + 1 ≤ _; omega), _, rfl, rfl, g1.z z2, z1⟩
      · exact ⟨w, rfl, rfl, g1, Bool.eq_false_iff.mpr e⟩
    rintro σ' H' ⟨w, rfl, rfl, g1, gr⟩
    refine ⟨.inl ⟨rfl, _, SqL.of upd_same⟩, L, _, _, rfl, rfl, upd_same, line_lt (by rw [List.length_map]; omega), ?_⟩
    refine ⟨_, _, zs ++ [w], rfl, ?_, by rw [List.length_append, hzl]; rfl, fun j z hj => ?_⟩
    · rw [upd_upd, List.map_append]
      rfl
    · by_cases h : j < zs.length
      · rw [List.getElem?_append_left h] at hj
        exact hzs j z hj
      · rw [List.getElem?_append_right (by omega)] at hj
        have hj0 : j - zs.length = 0 := by
          have := (List.getElem?_eq_some_iff.mp hj).1
          rw [List.length_singleton] at this
          omega
        rw [hj0] at hj
        cases hj
        rw [show j = i by omega, hcc]
        exact ⟨g1, gr⟩
  · rintro σ' H' ⟨y, z, zs, rfl, rfl, hzl, hzs⟩
    refine q _ L zs ?_ (hd6.at Ls Lc) L0 upd_same (by omega) (fun z hz => ?_) ?_
    · intro b o nb hb
      rw [upd_ne (ne_of_none hb L0)]
      exact b6 b o nb hb
    · obtain ⟨j, hj, e⟩ := List.getElem_of_mem hz
      obtain ⟨h1, h2⟩ := hzs j z (by rw [List.getElem?_eq_getElem hj, e])
      exact ⟨h1.name h2, h1.2.2⟩
    · show List.Pairwise (· ≠ ·) zs
      rw [List.pairwise_iff_getElem]
      intro i j hi hj hij e
      have ej : zs[j]? = some zs[j] := List.getElem?_eq_getElem hj
      have ei : zs[i]? = some zs[j] := by rw [← e]; exact List.getElem?_eq_getElem hi
      obtain ⟨h1, _⟩ := hzs i _ ei
      obtain ⟨h2, _⟩ := hzs j _ ej
      have := h1.2.1.symm.trans h2.2.1
      have := Option.some.inj this
      omega
end
section
variable {P : Program} {w : World} {K : PySem.W.Frag} {mg : Str → Option Value} {base : Heap}
variable {t_BOUND t_LETTERS t_LONGEST_NAME : Tok} {a_RESERVED a_BadName a_BadNumber a_Change a_ElseputError a_TooLarge a_UnknownField a_UnknownKey a_UnknownName a_UnknownShape : Addr}
theorem bd_small {i : Int} (h : Bd i) : i.natAbs < 2 ^ 200 := by
  have e : (2 : Nat) ^ 200 = 1606938044258990275541962092341162602522202993782792835301376 := by decide +kernel
  rw [e]
  unfold Bd at h
  omega
theorem inB_of {i : Int} (h : Bd i) : inB i = true := by
  unfold inB
  rw [decide_eq_true h.1, decide_eq_true h.2]
  rfl
theorem applyR_snoc {c : Ct} {xs : List Rw} {x : Rw} : applyR c (xs ++ [x]) = stepR (applyR c xs) x := by
  unfold applyR
  rw [List.foldl_append]
  rfl
theorem Ints.app {c : Ct} (l : List Rw) : Ints c → Ints (applyR c l) := by
  induction l generalizing c with
  | nil => exact fun h => h
  | cons x l ih => exact fun h => ih h.step
theorem HasF.app {c : Ct} {z : Str} (l : List Rw) : HasF c z → HasF (applyR c l) z := by
  induction l generalizing c with
  | nil => exact fun h => h
  | cons x l ih => exact fun h => ih h.step
theorem app_len {c : Ct} (l : List Rw) : (∀ x ∈ l, HasF c x.f) → (applyR c l).length = c.length := by
  induction l generalizing c with
  | nil => exact fun _ => rfl
  | cons x l ih =>
    intro h
    have := ih (c := stepR c x) fun y hy => (h y (List.mem_cons_of_mem _ hy)).step
    exact this.trans (putK_len' (h x List.mem_cons_self))
def sp__law_changed (K : PySem.W.Frag) : Sp := fun vs H Q _ => ∃ (p d : Addr) (rs : List Addr) (xs : List Rw) (c : Ct), vs = [.ref p, .ref d] ∧ H p = some (.lst (rs.map V.ref)) ∧ RowsL H rs xs ∧ xs.length ≤ 20 ∧ H d = some (.dK c) ∧ Ints c ∧ c.length ≤ 100 ∧ (∀ x ∈ xs, HasF c x.f) ∧
  ∀ (H' : Hp) (r : Addr), Same H H' → H r = none → H' r = some (.dK (applyR c xs)) → Q (.ref r) H'
theorem len__law_changed {vs : List V} {H : Hp} {Q : VK} {E : XK} (h : sp__law_changed K vs H Q E) : vs.length = 2 := by
  obtain ⟨_, _, _, _, _, rfl, _⟩ := h
  rfl
theorem ok__law_changed {f : Addr} {fd : FuncData} (F : Fun K "_law_changed" "_law_changed" s__law_changed f fd) (T : Gs K mg t_BOUND t_LETTERS t_LONGEST_NAME a_RESERVED a_BadName a_BadNumber a_Change a_ElseputError a_TooLarge a_UnknownField a_UnknownKey a_UnknownName a_UnknownShape) : FnOk P w K mg base CX0 1 f fd ["_law_rows", "_law_content"] (sp__law_changed K) := by
  refine F.ok sc__law_changed (fun vs H Q E h => len__law_changed h) (fun cdv A outer s H vs Q E hr h => ?_)
  obtain ⟨p, d, rs, xs, c, rfl, hp, hrs, lx, hd, hI, hcl, hF, q⟩ := h
  refine ⟨_, (pss_cons (ps_set (i := 2) sc__law_changed.nd rfl (.inl rfl) (pe_callTy call_dictD (by rfl) T.z_dict (by decide +kernel) (pa_cons (v_ 1) pa_nil))) (pss_cons (ps_for PassesOwn.never rfl (pi_list (v_ 0)) (pg_name (i := 3) sc__law_changed.nd rfl (.inl rfl)) (pss_one (ps_if (pt_c (eqK K hr.units) (e_x K (v_ 3) pe_int) pe_str) (pss_one (ps_asg (pe_op (addK K) (pe_dget (hu_of hr) (v_ 2) (e_x K (v_ 3) pe_int) (fun _ _ => rfl)) (e_x K (v_ 3) pe_int)) (pg_sub (v_ 2) (e_x K (v_ 3) pe_int) (set_dict (hu_of hr))))) (pss_one (ps_asg (e_x K (v_ 3) pe_int) (pg_sub (v_ 2) (e_x K (v_ 3) pe_int) (set_dict (hu_of hr)))))))) (pss_one (ps_ret (v_ 2))))), ?_⟩
  refine ⟨d, c, rfl, .inl hd, fun r nr => ?_⟩
  have s1 := same_new (o := .dK c) nr
  refine ⟨p, rfl, ⟨_, SqL.of (s1 _ _ hp)⟩, ?_⟩
  refine for_list (K := K) (a := p) (xs := rs.map V.ref) (fun i σ' H2 => (∃ y, σ' = [some (.ref p), some (.ref d), some (.ref r), y]) ∧ Same H H2 ∧ H2 r = some (.dK (applyR c (xs.take i)))) ⟨⟨_, rfl⟩, s1, upd_same⟩ (fun i σ' H2 _ h => SqL.of (h.2.1 _ _ hp)) ?_ ?_
  · rintro i v σ' H2 hi ⟨⟨y, rfl⟩, sm, hr2⟩
    rw [List.getElem?_map] at hi
    obtain ⟨k, hk, rfl⟩ := Option.map_eq_some_iff.mp hi
    obtain ⟨x, hx, hax⟩ := hrs.get hk
    have hf := (hF x (List.mem_of_getElem? hx)).app (xs.take i)
    have hn := hI.app (xs.take i)
    have hlen := app_len (xs.take i) fun y hy => hF y (List.mem_of_mem_take hy)
    have hd2 : applyR c (xs.take (i + 1)) = stepR (applyR c (xs.take i)) x := by rw [take_snoc hx, applyR_snoc]
    generalize applyR c (xs.take i) = c' at hr2 hd2 hf hn hlen
    obtain ⟨v, hv⟩ := Option.isSome_iff_exists.mp hf
    obtain ⟨o, rfl⟩ := hn _ _ hv
    have fin : ∀ n : Int, n = newN c' x → (∃ y : Option V, [some (V.ref p), some (V.ref d), some (V.ref r), some (V.ref k)] = [some (V.ref p), some (V.ref d), some (V.ref r), y]) ∧ Same H (upd H2 r (.dK (putK c' (kS x.f) (.int n)))) ∧ (upd H2 r (.dK (putK c' (kS x.f) (.int n)))) r = some (.dK (applyR c (xs.take (i + 1)))) := fun n e => by
      refine ⟨⟨_, rfl⟩, fun b ob hb => ?_, ?_⟩
      · rw [upd_ne (ne_of_none hb nr)]
        exact sm _ _ hb
      · rw [upd_same, hd2, e]
        rfl
    have hat := sm _ _ hax
    refine ⟨_, .inr (SqT.of hat), .str (deed x.add), rfl, ?_⟩
    refine ite2 (fun e => ?_) (fun e => ?_)
    · have e : x.add = true := deed_add.symm.trans e
      have hg := DGet.k (k := kS x.f) hr2
      rw [hv] at hg
      refine ⟨_, .inr (SqT.of hat), .str x.f, rfl, r, _, rfl, hg, _, .inr (SqT.of hat), .int x.n, rfl, ?_⟩
      refine ⟨_, .inr (SqT.of hat), .str x.f, rfl, r, _, rfl, DPut.k (k := kS x.f) hr2 (line_lt (by omega)), ?_⟩
      exact fin _ (by unfold newN; rw [e, hv]; rfl)
    · have e : x.add = false := deed_add.symm.trans (Bool.eq_false_iff.mpr e)
      refine ⟨_, .inr (SqT.of hat), .int x.n, rfl, ?_⟩
      refine ⟨_, .inr (SqT.of hat), .str x.f, rfl, r, _, rfl, DPut.k (k := kS x.f) hr2 (line_lt (by omega)), ?_⟩
      exact fin _ (by unfold newN; rw [e]; rfl)
  · rintro σ' H2 ⟨⟨y, rfl⟩, sm, hr2⟩
    rw [List.length_map, hrs.len, List.take_length] at hr2
    exact q H2 r sm nr hr2

/-! ### a change out of rows -/
def Good (xs : List Rw) : Prop := (∀ x ∈ xs, isName x.f = true ∧ x.f.length ≤ 12 ∧ Bd x.n) ∧ (xs.map (·.f)).Nodup ∧ xs.length ≤ 3
theorem followed_ne {x y : Rw} (h : ¬ y.f = x.f) : followedR x [y] = x := by
  unfold followedR
  rw [if_neg h]
  rfl
theorem joined_one {xs : List Rw} {y : Rw} (h : y.f ∉ xs.map (·.f)) : joinedR xs [y] = xs ++ [y] := by
  unfold joinedR
  have h1 : xs.map (fun x => followedR x [y]) = xs := by
    have : ∀ x ∈ xs, followedR x [y] = x := fun x hx => followed_ne fun e => h (List.mem_map.mpr ⟨x, hx, e.symm⟩)
    exact (List.map_congr_left this).trans (List.map_id' xs)
  rw [h1, List.filter_cons, if_pos (by simpa using h)]
  rfl
def sp__law_change (K : PySem.W.Frag) : Sp := fun vs H Q _ => ∃ (p : Addr) (rs : List Addr) (xs : List Rw), vs = [.ref p] ∧ H p = some (.lst (rs.map V.ref)) ∧ RowsL H rs xs ∧ Good xs ∧ ∀ (H' : Hp) (a : Addr), Same H H' → ChAt K H' a xs → Q (.ref a) H'
theorem len__law_change {vs : List V} {H : Hp} {Q : VK} {E : XK} (h : sp__law_change K vs H Q E) : vs.length = 1 := by
  obtain ⟨_, _, _, rfl, _⟩ := h
  rfl
theorem nodup_take {xs : List Rw} {i : Nat} {x : Rw} (h : (xs.map (·.f)).Nodup) (hx : xs[i]? = some x) : x.f ∉ (xs.take i).map (·.f) := by
  intro hm
  rw [List.map_take] at hm
  have hd : (xs.map (·.f))[i]? = some x.f := by rw [List.getElem?_map, hx]; rfl
  obtain ⟨j, hj, e⟩ := List.getElem_of_mem hm
  rw [List.length_take] at hj
  obtain ⟨h1, h2⟩ := List.getElem?_eq_some_iff.mp hd
  rw [List.getElem_take] at e
  have := (List.pairwise_iff_getElem.mp h) j i (by omega) h1 (by omega)
  exact this (e.trans h2.symm)
theorem ok__law_change {f : Addr} {fd : FuncData} {f_Change_none : Addr} {fd_Change_none : FuncData} {p_Change_none : Addr} {f_Change_adding : Addr} {fd_Change_adding : FuncData} {p_Change_adding : Addr} {f_Change_setting : Addr} {fd_Change_setting : FuncData} {p_Change_setting : Addr} {f_Change___rshift__ : Addr} {fd_Change___rshift__ : FuncData} (F : Fun K "_law_change" "_law_change" s__law_change f fd) (T : Gs K mg t_BOUND t_LETTERS t_LONGEST_NAME a_RESERVED a_BadName a_BadNumber a_Change a_ElseputError a_TooLarge a_UnknownField a_UnknownKey a_UnknownName a_UnknownShape) (c_Change_none : CalS P w K mg base CX0 3 a_Change p_Change_none "none" f_Change_none fd_Change_none [] (sp_Change_none K)) (c_Change_adding : CalS P w K mg base (L2.CX P w) 4 a_Change p_Change_adding "adding" f_Change_adding fd_Change_adding ["field", "number"] (sp_Change_adding K)) (c_Change_setting : CalS P w K mg base (L2.CX P w) 4 a_Change p_Change_setting "setting" f_Change_setting fd_Change_setting ["field", "number"] (sp_Change_setting K)) (c_Change___rshift__ : CalO P w K mg base (L2.CX P w) 3 a_Change .RShift f_Change___rshift__ fd_Change___rshift__ ["self", "other"] (sp_Change___rshift__ K)) : FnOk P w K mg base CX0 5 f fd ["_law_rows"] (sp__law_change K) := by
  refine F.ok sc__law_change (fun vs H Q E h => len__law_change h) (fun cdv A outer s H vs Q E hr h => ?_)
  obtain ⟨p, rs, xs, rfl, hp, hrs, ⟨hg, hnd, hl⟩, q⟩ := h
  refine ⟨_, (pss_cons (ps_set (i := 1) sc__law_change.nd rfl (.inl rfl) (pe_smeth0 (pe_glob (v := .ref a_Change) rfl T.g_Change rfl) c_Change_none.rd c_Change_none.sm c_Change_none.G (hr.mono (by first | decide | omega)) c_Change_none.b pass0)) (pss_cons (ps_for PassesOwn.never rfl (pi_list (v_ 0)) (pg_name (i := 2) sc__law_change.nd rfl (.inl rfl)) (pss_one (ps_if (pt_c (eqK K hr.units) (e_x K (v_ 2) pe_int) pe_str) (pss_one (ps_set (i := 1) sc__law_change.nd rfl (.inl rfl) (pe_op (op_own c_Change___rshift__.op c_Change___rshift__.G (hr.mono (by first | decide | omega)) c_Change___rshift__.b passL) (v_ 1) (pe_smeth (pe_glob (v := .ref a_Change) rfl T.g_Change rfl) c_Change_adding.rd c_Change_adding.sm c_Change_adding.G (hr.mono (by first | decide | omega)) c_Change_adding.b passL (pa_cons (e_x K (v_ 2) pe_int) (pa_cons (e_x K (v_ 2) pe_int) pa_nil)))))) (pss_one (ps_set (i := 1) sc__law_change.nd rfl (.inl rfl) (pe_op (op_own c_Change___rshift__.op c_Change___rshift__.G (hr.mono (by first | decide | omega)) c_Change___rshift__.b passL) (v_ 1) (pe_smeth (pe_glob (v := .ref a_Change) rfl T.g_Change rfl) c_Change_setting.rd c_Change_setting.sm c_Change_setting.G (hr.mono (by first | decide | omega)) c_Change_setting.b passL (pa_cons (e_x K (v_ 2) pe_int) (pa_cons (e_x K (v_ 2) pe_int) pa_nil))))))))) (pss_one (ps_ret (v_ 1))))), ?_⟩
  refine ⟨rfl, rfl, fun H1 a s1 na hA => ?_⟩
  refine ⟨p, rfl, ⟨_, SqL.of (s1 _ _ hp)⟩, ?_⟩
  refine for_list (K := K) (a := p) (xs := rs.map V.ref) (fun i σ' H2 => ∃ (a : Addr) (y : Option V), σ' = [some (.ref p), some (.ref a), y] ∧ Same H H2 ∧ ChAt K H2 a (xs.take i)) ⟨a, _, rfl, s1, hA⟩ (fun i σ' H2 _ ⟨_, _, _, h, _⟩ => SqL.of (h _ _ hp)) ?_ ?_
  · rintro i v σ' H2 hi ⟨a, y, rfl, sm, hA⟩
    rw [List.getElem?_map] at hi
    obtain ⟨k, hk, rfl⟩ := Option.map_eq_some_iff.mp hi
    obtain ⟨x, hx, hax⟩ := hrs.get hk
    obtain ⟨g1, g2, g3, g4⟩ := hg x (List.mem_of_getElem? hx)
    have hat := sm _ _ hax
    have hj : joinedR (xs.take i) [x] = xs.take (i + 1) := by rw [joined_one (nodup_take hnd hx), take_snoc hx]
    have l1 : (xs.take i).length ≤ 10 := by rw [List.length_take]; omega
    have l2 : (xs.take (i + 1)).length ≤ 3 := by rw [List.length_take]; omega
    have join : ∀ {H3 : Hp} {b : Addr} {Q' : VK} {E' : XK}, Same H2 H3 → ChAt K H3 b [x] → (∀ H4 a', Same H3 H4 → ChAt K H4 a' (xs.take (i + 1)) → Q' (.ref a') H4) → sp_Change___rshift__ K [.ref a, .ref b] H3 Q' E' := fun s3 hb k => by
      refine ⟨a, _, xs.take i, [x], rfl, hA.same s3, hb, l1, by show 1 ≤ 10; decide, ?_⟩
      unfold Joins
      rw [hj, if_pos l2]
      exact fun H4 a' s4 _ h4 => k H4 a' s4 h4
    refine ⟨_, .inr (SqT.of hat), .str (deed x.add), rfl, ?_⟩
    obtain ⟨C, dx, t, us, hC, ha, _⟩ := id hA
    cases hC.symm.trans T.n_Change
    have fin : ∀ {H3 : Hp} {b : Addr}, Same H2 H3 → ChAt K H3 b [x] → rOwn a_Change (sp_Change___rshift__ K) E0 (.ref a) (.ref b) H3 fun z H4 => ∃ (a : Addr) (y : Option V), [some (V.ref p), some z, some (V.ref k)] = [some (V.ref p), some (V.ref a), y] ∧ Same H H4 ∧ ChAt K H4 a (xs.take (i + 1)) := fun s3 hb => by
      obtain ⟨C2, dy, t2, us2, hC2, hb2, _⟩ := id hb
      cases hC2.symm.trans T.n_Change
      exact ⟨a, _, dx, _, dy, _, rfl, rfl, s3 _ _ ha, hb2, join s3 hb fun H4 a' s4 h4 => ⟨a', _, rfl, (sm.trans s3).trans s4, h4⟩⟩
    refine ite2 (fun e => ?_) (fun e => ?_)
    · have e : x.add = true := deed_add.symm.trans e
      refine ⟨rfl, _, .inr (SqT.of hat), .str x.f, rfl, _, .inr (SqT.of hat), .int x.n, rfl, _, _, rfl, by omega, isName_asc g1, bd_small ⟨g3, g4⟩, ?_⟩
      rw [if_pos g1, if_pos (inB_of ⟨g3, g4⟩)]
      intro H3 b s3 nb hb
      have hb : ChAt K H3 b [x] := by
        have : (⟨x.f, true, x.n⟩ : Rw) = x := by rw [← e]
        rw [← this]
        exact hb
      exact fin s3 hb
    · have e : x.add = false := deed_add.symm.trans (Bool.eq_false_iff.mpr e)
      refine ⟨rfl, _, .inr (SqT.of hat), .str x.f, rfl, _, .inr (SqT.of hat), .int x.n, rfl, _, _, rfl, by omega, isName_asc g1, bd_small ⟨g3, g4⟩, ?_⟩
      rw [if_pos g1, if_pos (inB_of ⟨g3, g4⟩)]
      intro H3 b s3 nb hb
      have hb : ChAt K H3 b [x] := by
        have : (⟨x.f, false, x.n⟩ : Rw) = x := by rw [← e]
        rw [← this]
        exact hb
      exact fin s3 hb
  · rintro σ' H2 ⟨a, y, rfl, sm, hA⟩
    rw [List.length_map, hrs.len, List.take_length] at hA
    exact q H2 a sm hA
end
section
variable {P : Program} {w : World} {K : PySem.W.Frag} {mg : Str → Option Value} {base : Heap}
variable {t_BOUND t_LETTERS t_LONGEST_NAME : Tok} {a_RESERVED a_BadName a_BadNumber a_Change a_ElseputError a_TooLarge a_UnknownField a_UnknownKey a_UnknownName a_UnknownShape : Addr}
def fld (zs : List Str) (a : Int) (j : Nat) : Str := (zs[((a + j) % 5).toNat]?).getD Str.empty
theorem fld_at {zs : List Str} {a : Int} {j : Nat} (hl : zs.length = 5) : zs[((a + j) % 5).toNat]? = some (fld zs a j) := by
  have h : ((a + j) % 5).toNat < zs.length := by omega
  unfold fld
  rw [List.getElem?_eq_getElem h]
  rfl
theorem fld_mem {zs : List Str} {a : Int} {j : Nat} (hl : zs.length = 5) : fld zs a j ∈ zs := List.mem_of_getElem? (fld_at hl)
theorem nodup_at {zs : List Str} (hn : zs.Nodup) {i j : Nat} {z : Str} (hi : zs[i]? = some z) (hj : zs[j]? = some z) : i = j := by
  obtain ⟨h1, e1⟩ := List.getElem?_eq_some_iff.mp hi
  obtain ⟨h2, e2⟩ := List.getElem?_eq_some_iff.mp hj
  have hp := List.pairwise_iff_getElem.mp hn
  by_cases h : i = j
  · exact h
  · rcases Nat.lt_or_gt_of_ne h with h | h
    · exact absurd (e1.trans e2.symm) (hp i j h1 h2 h)
    · exact absurd (e2.trans e1.symm) (hp j i h2 h1 h)
theorem fld_nodup {zs : List Str} {a : Int} {m : Nat} (hl : zs.length = 5) (hn : zs.Nodup) (hm : m ≤ 3) : ((List.range m).map (fld zs a)).Nodup := by
  show List.Pairwise (· ≠ ·) _
  rw [List.pairwise_map]
  refine List.Pairwise.imp_of_mem (fun {i j} hi hj hij e => ?_) List.pairwise_lt_range
  rw [List.mem_range] at hi hj
  have := nodup_at hn (fld_at (a := a) (j := i) hl) (by rw [e]; exact fld_at hl)
  omega
def sp__law_assignments (K : PySem.W.Frag) : Sp := fun vs H Q _ => ∃ (st scr p : Addr) (zs : List Str), vs = [.ref st, .ref p, .int 3] ∧ DrAt H st scr ∧ H p = some (.lst (zs.map V.str)) ∧ p ≠ st ∧ zs.length = 5 ∧ (∀ z ∈ zs, isName z = true ∧ z.length ≤ 12) ∧ zs.Nodup ∧
  ∀ (H' : Hp) (L : Addr) (rs : List Addr) (xs : List Rw), Bt st H H' → DrAt H' st scr → H L = none → H' L = some (.lst (rs.map V.ref)) → RowsL H' rs xs → Good xs → (∀ x ∈ xs, x.f ∈ zs) → Q (.ref L) H'
theorem len__law_assignments {vs : List V} {H : Hp} {Q : VK} {E : XK} (h : sp__law_assignments K vs H Q E) : vs.length = 3 := by
  obtain ⟨_, _, _, _, rfl, _⟩ := h
  rfl
theorem ok__law_assignments {f : Addr} {fd : FuncData} {f__law_draw : Addr} {fd__law_draw : FuncData} {f__law_pick : Addr} {fd__law_pick : FuncData} {f__law_constant : Addr} {fd__law_constant : FuncData} (F : Fun K "_law_assignments" "_law_assignments" s__law_assignments f fd) (T : Gs K mg t_BOUND t_LETTERS t_LONGEST_NAME a_RESERVED a_BadName a_BadNumber a_Change a_ElseputError a_TooLarge a_UnknownField a_UnknownKey a_UnknownName a_UnknownShape) (c__law_draw : Cal P w K mg base CX0 1 "_law_draw" f__law_draw fd__law_draw ["_law_state_here", "_law_many"] (sp__law_draw K)) (c__law_pick : Cal P w K mg base CX0 2 "_law_pick" f__law_pick fd__law_pick ["_law_state_here", "_law_row"] (sp__law_pick K)) (c__law_constant : Cal P w K mg base CX0 3 "_law_constant" f__law_constant fd__law_constant ["_law_state_here"] (sp__law_constant K)) : FnOk P w K mg base CX0 4 f fd ["_law_state_here", "_law_fields", "_law_most"] (sp__law_assignments K) := by
  refine F.ok sc__law_assignments (fun vs H Q E h => len__law_assignments h) (fun cdv A outer s H vs Q E hr h => ?_)
  obtain ⟨st, scr, p, zs, rfl, hd, hp, pst, hzl, hzn, hznd, q⟩ := h
  refine ⟨_, (pss_cons (ps_set (i := 3) sc__law_assignments.nd rfl (.inl rfl) (pe_op (addK K) pe_int (pe_call c__law_draw.G (hr.mono (by first | decide | omega)) rfl c__law_draw.m c__law_draw.kp c__law_draw.b .nil pass0 (pa_cons (v_ 0) (pa_cons (pe_callB (call_min2 rfl) (by rfl) T.z_min (by decide +kernel) (pa_cons (v_ 2) (pa_cons (pe_callB (lenK K) (by rfl) T.z_len PySem.boot_len (pa_cons (v_ 1) pa_nil)) pa_nil))) pa_nil))))) (pss_cons (ps_set (i := 4) sc__law_assignments.nd rfl (.inl rfl) (pe_call c__law_draw.G (hr.mono (by first | decide | omega)) rfl c__law_draw.m c__law_draw.kp c__law_draw.b .nil pass0 (pa_cons (v_ 0) (pa_cons (pe_callB (lenK K) (by rfl) T.z_len PySem.boot_len (pa_cons (v_ 1) pa_nil)) pa_nil)))) (pss_cons (ps_set (i := 5) sc__law_assignments.nd rfl (.inl rfl) (pe_lst pa_nil)) (pss_cons (ps_for PassesOwn.never rfl (pi_range1 rfl T.z_range (pa_cons (v_ 3) pa_nil)) (pg_name (i := 6) sc__law_assignments.nd rfl (.inl rfl)) (pss_cons (ps_set (i := 7) sc__law_assignments.nd rfl (.inl rfl) (e_x K (v_ 1) (pe_op op_modM (pe_callTy call_intM (by rfl) T.z_int (by decide +kernel) (pa_cons (pe_op (addK K) (v_ 4) (v_ 6)) pa_nil)) (pe_callB (lenK K) (by rfl) T.z_len PySem.boot_len (pa_cons (v_ 1) pa_nil))))) (pss_one (ps_expr (pe_bm PySem.F.plainAttrs_list PySem.F.slot_list_append PySem.F.type_list_append mt_append (v_ 5) (pa_cons (pe_tup (pa_cons (v_ 7) (pa_cons (pe_call c__law_pick.G (hr.mono (by first | decide | omega)) rfl c__law_pick.m c__law_pick.kp c__law_pick.b .nil pass0 (pa_cons (v_ 0) (pa_cons (pe_lst (pa_cons pe_str (pa_cons pe_str pa_nil))) pa_nil))) (pa_cons (pe_call c__law_constant.G (hr.mono (by first | decide | omega)) rfl c__law_constant.m c__law_constant.kp c__law_constant.b .nil pass0 (pa_cons (v_ 0) pa_nil)) pa_nil)))) pa_nil)))))) (pss_one (ps_ret (v_ 5))))))), ?_⟩
  have hlen : ((zs.map V.str).length : Int) = 5 := by rw [List.length_map, hzl]; rfl
  refine .inl ⟨_, .inl (SqL.of hp), _, _, rfl, ?_⟩
  rw [hlen]
  refine ⟨st, scr, 3, rfl, hd, by decide, many_small (by decide) (by decide), fun mm l m0 m1 hd1 => ?_⟩
  have b1 : Bt st H (upd H st (.lst l)) := Bt.st
  have hp1 : upd H st (.lst l) p = some (.lst (zs.map V.str)) := by rw [upd_ne pst]; exact hp
  generalize upd H st (.lst l) = H1 at hd1 b1 hp1 ⊢
  refine .inl ⟨_, .inl (SqL.of hp1), ?_⟩
  rw [hlen]
  refine ⟨st, scr, 5, rfl, hd1, by decide, many_small (by decide) (by decide), fun a l2 a0 a1 hd2 => ?_⟩
  have b2 := b1.trans (Bt.st (st := st) (o := .lst l2))
  have hp2 : upd H1 st (.lst l2) p = some (.lst (zs.map V.str)) := by rw [upd_ne pst]; exact hp1
  generalize upd H1 st (.lst l2) = H2 at hd2 b2 hp2 ⊢
  refine ⟨Nat.zero_le _, fun L nL => ?_⟩
  have Ls : L ≠ st := hd2.ne_new nL
  have Lc : L ≠ scr := hd2.ne_scr nL
  have L0 : H L = none := b2.free Ls nL
  have b3 := b2.trans (Bt.same (st := st) (same_new (o := .lst []) nL))
  have hd3 := hd2.new (same_new (o := .lst []) nL)
  have hp3 := same_new (o := .lst []) nL _ _ hp2
  have hL3 := upd_same (H := H2) (a := L) (o := .lst [])
  have pL : p ≠ L := ne_of_none hp2 nL
  generalize upd H2 L (.lst []) = H3 at b3 hd3 hp3 hL3 ⊢
  obtain ⟨m, hm⟩ := Int.eq_ofNat_of_zero_le (show 0 ≤ 1 + mm by omega)
  have hm3 : m ≤ 3 := by omega
  rw [hm]
  refine ⟨m, rfl, by omega, by omega, ?_⟩
  refine for_range (lo := 0) (n := m) (fun i σ' H' => ∃ (y z : Option V) (rs : List Addr) (xs : List Rw), σ' = [some (.ref st), some (.ref p), some (.int 3), some (.int m), some (.int a), some (.ref L), y, z] ∧ Bt st H H' ∧ DrAt H' st scr ∧ H' p = some (.lst (zs.map V.str)) ∧ H' L = some (.lst (rs.map V.ref)) ∧ RowsL H' rs xs ∧ xs.map (·.f) = (List.range i).map (fld zs a) ∧ ∀ x ∈ xs, Bd x.n) ?_ ?_ ?_
  · exact ⟨_, _, [], [], rfl, b3, hd3, hp3, hL3, trivial, rfl, fun _ h => nomatch h⟩
  · rintro i σ' H' hi ⟨y, z, rs, xs, rfl, bt, hdd, hpp, hL, hrs, hfs, hbd⟩
    refine .inl ⟨_, .inl (SqL.of hpp), ?_⟩
    rw [hlen]
    refine ⟨by decide, _, .inl (SqL.of hpp), .str (fld zs a i), ?_, ?_⟩
    · have e := fld_at (zs := zs) (a := a) (j := i) hzl
      have hq : atI (zs.map V.str) ((((a + i) % 5).toNat : Nat) : Int) = some (.str (fld zs a i)) := atI_nat (by rw [List.getElem?_map, e]; rfl)
      rw [show (0 : Int) + i = i by omega]
      rwa [show ((((a + i) % 5).toNat : Nat) : Int) = (a + i) % 5 by omega] at hq
    refine ⟨.inl ⟨rfl, _, SqL.of hL⟩, ?_⟩
    refine ⟨(by show 2 ≤ sizeLine; decide), fun t1 n1 => ?_⟩
    have hd5 := hdd.new (same_new (o := .lst [.str "add", .str "set"]) n1)
    refine ⟨st, scr, _, rfl, hd5, .inr ⟨t1, _, rfl, upd_same, hdd.ne_new n1, by decide, by decide, fun dv l hdv hd6 => ?_⟩⟩
    obtain ⟨ad, rfl⟩ : ∃ ad : Bool, dv = .str (deed ad) := by
      simp only [List.mem_cons, List.not_mem_nil, or_false] at hdv
      rcases hdv with rfl | rfl
      · exact ⟨true, rfl⟩
      · exact ⟨false, rfl⟩
    refine ⟨st, scr, rfl, hd6, fun l2 m hm hd7 => ?_⟩
    refine ⟨(by show 3 ≤ sizeLine; decide), fun t2 n2 => ?_⟩
    have keep : ∀ b o, b ≠ st → H' b = some o → (upd (upd (upd (upd H' t1 (.lst [.str "add", .str "set"])) st (.lst l)) st (.lst l2)) t2 (.tup [.str (fld zs a i), .str (deed ad), .int m])) b = some o := fun b o nb hb =>
      same_new n2 _ _ (by rw [upd_ne nb, upd_ne nb]; exact same_new n1 _ _ hb)
    have ht2 := upd_same (H := upd (upd (upd H' t1 (.lst [.str "add", .str "set"])) st (.lst l)) st (.lst l2)) (a := t2) (o := .tup [.str (fld zs a i), .str (deed ad), .int m])
    have hd8 := hd7.new (same_new (o := .tup [.str (fld zs a i), .str (deed ad), .int m]) n2)
    generalize upd (upd (upd (upd H' t1 (.lst [.str "add", .str "set"])) st (.lst l)) st (.lst l2)) t2 (.tup [.str (fld zs a i), .str (deed ad), .int m]) = H5 at keep ht2 hd8 ⊢
    have hL5 := keep _ _ Ls hL
    have hxl : xs.length ≤ 3 := by
      have := congrArg List.length hfs
      rw [List.length_map, List.length_map, List.length_range] at this
      omega
    have hrl : rs.length ≤ 3 := by rw [hrs.len]; exact hxl
    refine ⟨L, _, _, rfl, rfl, hL5, line_lt (by rw [List.length_map]; omega), ?_⟩
    have kt : ∀ c z, H' c = some (.tup z) → (upd H5 L (.lst (rs.map V.ref ++ [.ref t2]))) c = some (.tup z) := fun c z hc => by
      rw [upd_ne (ne_of hc hL (by intro e; cases e))]
      obtain ⟨l, hl⟩ := hdd.lst
      exact keep _ _ (ne_of hc hl (by intro e; cases e)) hc
    have t2L : t2 ≠ L := by
      intro e
      rw [e, hL5] at ht2
      cases ht2
    refine ⟨_, _, rs ++ [t2], xs ++ [⟨fld zs a i, ad, m⟩], rfl, ?_, hd8.at Ls Lc, by rw [upd_ne pL]; exact keep _ _ pst hpp, by rw [upd_same, List.map_append]; rfl, (hrs.keep kt).app ⟨by show _ = _; rw [upd_ne t2L]; exact ht2, trivial⟩, ?_, ?_⟩
    · intro b o nb hb
      rw [upd_ne (ne_of_none hb L0)]
      exact keep _ _ nb (bt _ _ nb hb)
    · rw [List.map_append, hfs, List.range_succ, List.map_append]
      rfl
    · intro x hx
      rcases List.mem_append.mp hx with h | h
      · exact hbd x h
      · rw [List.mem_singleton.mp h]
        exact hm
  · rintro σ' H' ⟨y, z, rs, xs, rfl, bt, hdd, hpp, hL, hrs, hfs, hbd⟩
    have hmem : ∀ x ∈ xs, x.f ∈ zs := fun x hx => by
      have h : x.f ∈ (List.range m).map (fld zs a) := by rw [← hfs]; exact List.mem_map_of_mem hx
      obtain ⟨j, _, e⟩ := List.mem_map.mp h
      rw [← e]
      exact fld_mem hzl
    refine q H' L rs xs bt hdd L0 hL hrs ⟨fun x hx => ⟨(hzn _ (hmem x hx)).1, (hzn _ (hmem x hx)).2, hbd x hx⟩, by rw [hfs]; exact fld_nodup hzl hznd hm3, ?_⟩ hmem
    have := congrArg List.length hfs
    rw [List.length_map, List.length_map, List.length_range] at this
    omega
def sp__law_reserved (K : PySem.W.Frag) : Sp := fun vs H Q _ => vs = [] ∧ ∀ (H' : Hp) (r : Addr), Same H H' → H r = none → H' r = some (.lst resv) → Q (.ref r) H'
theorem len__law_reserved {vs : List V} {H : Hp} {Q : VK} {E : XK} (h : sp__law_reserved K vs H Q E) : vs.length = 0 := by
  obtain ⟨rfl, _⟩ := h
  rfl
theorem ok__law_reserved {f : Addr} {fd : FuncData} (F : Fun K "_law_reserved" "_law_reserved" s__law_reserved f fd) (T : Gs K mg t_BOUND t_LETTERS t_LONGEST_NAME a_RESERVED a_BadName a_BadNumber a_Change a_ElseputError a_TooLarge a_UnknownField a_UnknownKey a_UnknownName a_UnknownShape) : FnOk P w K mg base CX0 1 f fd [] (sp__law_reserved K) := by
  refine F.ok sc__law_reserved (fun vs H Q E h => len__law_reserved h) (fun cdv A outer s H vs Q E hr h => ?_)
  obtain ⟨rfl, q⟩ := h
  refine ⟨_, (pss_cons (ps_set (i := 0) sc__law_reserved.nd rfl (.inl rfl) (pe_lst (pa_cons pe_str (pa_cons pe_str (pa_cons pe_str (pa_cons pe_str (pa_cons pe_str (pa_cons pe_str (pa_cons pe_str (pa_cons pe_str (pa_cons pe_str (pa_cons pe_str (pa_cons pe_str (pa_cons pe_str pa_nil)))))))))))))) (pss_one (ps_ret (pe_op (addK K) (v_ 0) (pe_lst (pa_cons pe_str (pa_cons pe_str (pa_cons pe_str (pa_cons pe_str (pa_cons pe_str (pa_cons pe_str pa_nil))))))))))), ?_⟩
  refine ⟨(by show 12 ≤ sizeLine; decide), fun o no => ?_⟩
  refine ⟨(by show 6 ≤ sizeLine; decide), fun p np => ?_⟩
  have hpo := new_ne np
  refine .inl ⟨_, _, (by rw [upd_ne hpo.symm, upd_same]), upd_same, (by show 18 ≤ sizeLine; decide), fun rv nrv => ?_⟩
  exact q _ rv (((same_new no).trans (same_new np)).trans (same_new nrv)) (free_new (free_new nrv)) upd_same
end
section
variable {P : Program} {w : World} {K : PySem.W.Frag} {mg : Str → Option Value} {base : Heap}
variable {t_BOUND t_LETTERS t_LONGEST_NAME : Tok} {a_RESERVED a_BadName a_BadNumber a_Change a_ElseputError a_TooLarge a_UnknownField a_UnknownKey a_UnknownName a_UnknownShape : Addr}
abbrev others : Str := " !\"#$&'()*+,-./0123456789:;<=>?@ABCDEFGHIJKLMNOPQRSTUVWXYZ[\\]^_`{|}~"
theorem others_bad : ∀ c ∈ others.cps.toList, c ∉ letters.cps.toList ∧ c < 16 ^ 8 := by decide +kernel
theorem others_len : 0 < others.length ∧ others.length ≤ 1000 := by decide +kernel
theorem resv_asc : ∀ z ∈ (["always", "never", "and", "or", "not", "when", "add", "set", "change", "tell", "refuse", "take", "look", "free", "lock", "keep", "keys", "fields"] : List Str), inV (.str z) resv = true ∧ z.length ≤ 12 ∧ ∀ c ∈ z.cps.toList, c < 16 ^ 8 := by decide +kernel
theorem not_name_resv {z : Str} (h : inV (.str z) resv = true) : isName z = false := by
  cases e : isName z with
  | false => rfl
  | true =>
    have := (isName_mem e).2.2.2
    rw [h] at this
    cases this
def sp__law_bad_name (K : PySem.W.Frag) : Sp := fun vs H Q _ => ∃ (st scr : Addr) (z : Str) (k : Int), vs = [.ref st, .str z, .int k] ∧ DrAt H st scr ∧ isName z = true ∧
  ∀ (H' : Hp) (w : Str), Bt st H H' → DrAt H' st scr → isName w = false → w.length ≤ 30 → Asc w → Q (.str w) H'
theorem len__law_bad_name {vs : List V} {H : Hp} {Q : VK} {E : XK} (h : sp__law_bad_name K vs H Q E) : vs.length = 3 := by
  obtain ⟨_, _, _, _, rfl, _⟩ := h
  rfl
theorem ok__law_bad_name {f : Addr} {fd : FuncData} {f__law_pick : Addr} {fd__law_pick : FuncData} {f__law_draw : Addr} {fd__law_draw : FuncData} {f__law_reserved : Addr} {fd__law_reserved : FuncData} (F : Fun K "_law_bad_name" "_law_bad_name" s__law_bad_name f fd) (T : Gs K mg t_BOUND t_LETTERS t_LONGEST_NAME a_RESERVED a_BadName a_BadNumber a_Change a_ElseputError a_TooLarge a_UnknownField a_UnknownKey a_UnknownName a_UnknownShape) (c__law_pick : Cal P w K mg base CX0 2 "_law_pick" f__law_pick fd__law_pick ["_law_state_here", "_law_row"] (sp__law_pick K)) (c__law_draw : Cal P w K mg base CX0 1 "_law_draw" f__law_draw fd__law_draw ["_law_state_here", "_law_many"] (sp__law_draw K)) (c__law_reserved : Cal P w K mg base CX0 1 "_law_reserved" f__law_reserved fd__law_reserved [] (sp__law_reserved K)) : FnOk P w K mg base CX0 3 f fd ["_law_state_here", "_law_name", "_law_kind"] (sp__law_bad_name K) := by
  refine F.ok sc__law_bad_name (fun vs H Q E h => len__law_bad_name h) (fun cdv A outer s H vs Q E hr h => ?_)
  obtain ⟨st, scr, z, k, rfl, hd, hz, q⟩ := h
  obtain ⟨zm, z1, z12, zr⟩ := isName_mem hz
  have za := isName_asc hz
  refine ⟨_, (pss_cons (ps_set (i := 3) sc__law_bad_name.nd rfl (.inl rfl) pe_str) (pss_cons (ps_if (pt_c (eqK K hr.units) (v_ 2) pe_int) (pss_one (ps_ret (pe_call c__law_pick.G (hr.mono (by first | decide | omega)) rfl c__law_pick.m c__law_pick.kp c__law_pick.b .nil pass0 (pa_cons (v_ 0) (pa_cons (pe_call0 c__law_reserved.G (hr.mono (by first | decide | omega)) rfl c__law_reserved.m c__law_reserved.kp c__law_reserved.b .nil pass0) pa_nil))))) pss_nil) (pss_cons (ps_if (pt_c (eqK K hr.units) (v_ 2) pe_int) (pss_one (ps_ret (pe_slice (slK K) (pe_op (addK K) (v_ 1) pe_str) po_none (po_some pe_int)))) pss_nil) (pss_cons (ps_if (pt_c (eqK K hr.units) (v_ 2) pe_int) (pss_cons (ps_set (i := 4) sc__law_bad_name.nd rfl (.inl rfl) (pe_call c__law_draw.G (hr.mono (by first | decide | omega)) rfl c__law_draw.m c__law_draw.kp c__law_draw.b .nil pass0 (pa_cons (v_ 0) (pa_cons (pe_op (addK K) (pe_callB (lenK K) (by rfl) T.z_len PySem.boot_len (pa_cons (v_ 1) pa_nil)) pe_int) pa_nil)))) (pss_one (ps_ret (pe_op (addK K) (pe_op (addK K) (pe_slice (slK K) (v_ 1) po_none (po_some (v_ 4))) (pe_call c__law_pick.G (hr.mono (by first | decide | omega)) rfl c__law_pick.m c__law_pick.kp c__law_pick.b .nil pass0 (pa_cons (v_ 0) (pa_cons (v_ 3) pa_nil)))) (pe_slice (slK K) (v_ 1) (po_some (v_ 4)) po_none))))) pss_nil) (pss_one (ps_ret pe_str)))))), ?_⟩
  refine ite2 (fun e => ?_) (fun e => ?_)
  · refine ⟨rfl, fun H1 r s1 nr hr => ?_⟩
    refine ⟨st, scr, _, rfl, hd.new s1, .inr ⟨r, _, rfl, hr, hd.ne_new nr, by decide, by decide, fun x l hx hd2 => ?_⟩⟩
    rw [resv_strs] at hx
    obtain ⟨w, hw, rfl⟩ := List.mem_map.mp hx
    obtain ⟨w1, w2, w3⟩ := resv_asc w hw
    exact q _ w ((Bt.same s1).trans Bt.st) hd2 (not_name_resv w1) (by omega) w3
  refine ite2 (fun e => ?_) (fun e => ?_)
  · have zl : (Str.ofString "abcdefghijklm").length = 13 := by decide +kernel
    have e1 := cutS_take (z ++ "abcdefghijklm") (k := 13)
    have l1 := cutS_length (z ++ "abcdefghijklm") none (some 13)
    have la := len_add z (Str.ofString "abcdefghijklm")
    refine ⟨line_of (by omega), _, rfl, line_of (by rw [len_add]; omega), ?_⟩
    have lw : (cutS (z ++ "abcdefghijklm") none (some ((13 : Nat) : Int))).length = 13 := by
      rw [← len_cps, e1, List.length_take, len_cps, la]
      omega
    refine q H _ (Bt.refl st H) hd ?_ (by show (cutS (z ++ "abcdefghijklm") none (some ((13 : Nat) : Int))).length ≤ 30; omega) ?_
    · show isName (cutS (z ++ "abcdefghijklm") none (some ((13 : Nat) : Int))) = false
      cases e : isName (cutS (z ++ "abcdefghijklm") none (some ((13 : Nat) : Int))) with
      | false => rfl
      | true =>
        have := (isName_mem e).2.2.1
        omega
    · intro c hc
      have hc : c ∈ (cutS (z ++ "abcdefghijklm") none (some ((13 : Nat) : Int))).cps.toList := hc
      rw [e1, cps_add] at hc
      have hc := List.mem_of_mem_take hc
      rcases List.mem_append.mp hc with h | h
      · exact za c h
      · have : ∀ c ∈ (Str.ofString "abcdefghijklm").cps.toList, c < 16 ^ 8 := by decide +kernel
        exact this c h
  refine ite2 (fun e => ?_) (fun e => ?_)
  · refine ⟨line_of (by omega), ?_⟩
    refine ⟨st, scr, _, rfl, hd, by omega, many_small (by omega) (by omega), fun sp l s0 s1 hd1 => ?_⟩
    have b1 : Bt st H (upd H st (.lst l)) := Bt.st
    generalize upd H st (.lst l) = H1 at hd1 b1 ⊢
    have e1 := cutS_take z (k := sp.toNat)
    have e2 := cutS_drop z (k := sp.toNat)
    rw [show ((sp.toNat : Nat) : Int) = sp by omega] at e1 e2
    have l1 := cutS_length z none (some sp)
    have l2 := cutS_length z (some sp) none
    refine ⟨_, rfl, line_of (by omega), ?_⟩
    refine ⟨st, scr, _, rfl, hd1, .inl ⟨others, rfl, others_len.1, others_len.2, fun c l hc hd2 => ?_⟩⟩
    refine ⟨line_of (by rw [one_len]; omega), _, rfl, line_of (by omega), line_of (by rw [len_add, one_len]; omega), ?_⟩
    refine q _ _ (b1.trans Bt.st) hd2 ?_ (by rw [len_add, len_add, one_len]; omega) ?_
    · cases e : isName (cutS z none (some sp) ++ ⟨#[c]⟩ ++ cutS z (some sp) none) with
      | false => rfl
      | true =>
        refine absurd ((isName_mem e).1 c ?_) (others_bad c hc).1
        rw [cps_add, cps_add, one_cps]
        exact List.mem_append_left _ (List.mem_append_right _ (List.mem_singleton.mpr rfl))
    · intro d hd
      rw [cps_add, cps_add, e1, e2, one_cps] at hd
      rcases List.mem_append.mp hd with h | h
      · rcases List.mem_append.mp h with h | h
        · exact za d (List.mem_of_mem_take h)
        · rw [List.mem_singleton.mp h]
          exact (others_bad c hc).2
      · exact za d (List.mem_of_mem_drop h)
  · exact q H _ (Bt.refl st H) hd (by decide +kernel) (by decide) (fun c hc => nomatch hc)
theorem p59 : (10 : Int) ^ (59 : Int).toNat = 100000000000000000000000000000000000000000000000000000000000 := by decide +kernel
theorem inB_out {i : Int} (h : i < -1000000000000000000000000000000 ∨ 1000000000000000000000000000000 < i) : inB i = false := by
  unfold inB
  rcases h with h | h
  · rw [decide_eq_false (by omega : ¬ -1000000000000000000000000000000 ≤ i)]
    rfl
  · rw [decide_eq_false (by omega : ¬ i ≤ 1000000000000000000000000000000), Bool.and_false]
def sp__law_bad_number (K : PySem.W.Frag) : Sp := fun vs H Q _ => ∃ (st scr : Addr), vs = [.ref st] ∧ DrAt H st scr ∧
  ∀ (H' : Hp) (i : Int), Bt st H H' → DrAt H' st scr → (i < -1000000000000000000000000000000 ∨ 1000000000000000000000000000000 < i) → i.natAbs < 2 ^ 200 → Q (.int i) H'
theorem len__law_bad_number {vs : List V} {H : Hp} {Q : VK} {E : XK} (h : sp__law_bad_number K vs H Q E) : vs.length = 1 := by
  obtain ⟨_, _, rfl, _⟩ := h
  rfl
theorem ok__law_bad_number {f : Addr} {fd : FuncData} {f__law_draw : Addr} {fd__law_draw : FuncData} (F : Fun K "_law_bad_number" "_law_bad_number" s__law_bad_number f fd) (T : Gs K mg t_BOUND t_LETTERS t_LONGEST_NAME a_RESERVED a_BadName a_BadNumber a_Change a_ElseputError a_TooLarge a_UnknownField a_UnknownKey a_UnknownName a_UnknownShape) (c__law_draw : Cal P w K mg base CX0 1 "_law_draw" f__law_draw fd__law_draw ["_law_state_here", "_law_many"] (sp__law_draw K)) : FnOk P w K mg base CX0 2 f fd ["_law_state_here"] (sp__law_bad_number K) := by
  refine F.ok sc__law_bad_number (fun vs H Q E h => len__law_bad_number h) (fun cdv A outer s H vs Q E hr h => ?_)
  obtain ⟨st, scr, rfl, hd, q⟩ := h
  refine ⟨_, (pss_cons (ps_set (i := 1) sc__law_bad_number.nd rfl (.inl rfl) (pe_op (addK K) (pe_op (addK K) (pe_op op_powM pe_int pe_int) pe_int) (pe_call c__law_draw.G (hr.mono (by first | decide | omega)) rfl c__law_draw.m c__law_draw.kp c__law_draw.b .nil pass0 (pa_cons (v_ 0) (pa_cons pe_int pa_nil))))) (Evl.pss_cut (ps_if (pt_c (eqK K hr.units) (pe_call c__law_draw.G (hr.mono (by first | decide | omega)) rfl c__law_draw.m c__law_draw.kp c__law_draw.b .nil pass0 (pa_cons (v_ 0) (pa_cons pe_int pa_nil))) pe_int) (pss_one (ps_set (i := 1) sc__law_bad_number.nd rfl (.inl rfl) (pe_op (addK K) (pe_op op_powM pe_int pe_int) (pe_call c__law_draw.G (hr.mono (by first | decide | omega)) rfl c__law_draw.m c__law_draw.kp c__law_draw.b .nil pass0 (pa_cons (v_ 0) (pa_cons (pe_op op_powM pe_int pe_int) pa_nil)))))) pss_nil) (pss_cons (ps_if (pt_c (eqK K hr.units) (pe_call c__law_draw.G (hr.mono (by first | decide | omega)) rfl c__law_draw.m c__law_draw.kp c__law_draw.b .nil pass0 (pa_cons (v_ 0) (pa_cons pe_int pa_nil))) pe_int) (pss_one (ps_ret (pe_un un_negM (v_ 1)))) pss_nil) (pss_one (ps_ret (v_ 1)))))), ?_⟩
  have e200 : (2 : Nat) ^ 200 = 1606938044258990275541962092341162602522202993782792835301376 := by decide +kernel
  refine ⟨(by unfold CPow; decide), ?_⟩
  rw [p30]
  refine ⟨st, scr, _, rfl, hd, by decide, many_small (by decide) (by decide), fun r l r0 r1 hd1 => ?_⟩
  have b1 : Bt st H (upd H st (.lst l)) := Bt.st
  generalize upd H st (.lst l) = H1 at hd1 b1 ⊢
  refine ⟨fun σ' H' => ∃ i : Int, σ' = [some (.ref st), some (.int i)] ∧ Bt st H H' ∧ DrAt H' st scr ∧ 1000000000000000000000000000000 < i ∧ i.natAbs < 2 ^ 200, ?_, ?_⟩
  · refine ⟨st, scr, _, rfl, hd1, by decide, many_small (by decide) (by decide), fun r2 l2 r20 r21 hd2 => ?_⟩
    have b2 := b1.trans (Bt.st (st := st) (o := .lst l2))
    generalize upd H1 st (.lst l2) = H2 at hd2 b2 ⊢
    refine ite2 (fun e => ?_) (fun e => ?_)
    · refine ⟨(by unfold CPow; decide), ?_⟩
      rw [p59]
      refine ⟨(by unfold CPow; decide), ?_⟩
      rw [p59]
      refine ⟨st, scr, _, rfl, hd2, by decide, by decide +kernel, fun r3 l3 r30 r31 hd3 => ?_⟩
      exact ⟨_, rfl, b2.trans Bt.st, hd3, by omega, by rw [e200]; omega⟩
    · exact ⟨_, rfl, b2, hd2, by omega, by rw [e200]; omega⟩
  rintro σ' H2 ⟨i, rfl, b2, hd2, i0, i1⟩
  refine ⟨st, scr, _, rfl, hd2, by decide, many_small (by decide) (by decide), fun r2 l2 r20 r21 hd3 => ?_⟩
  refine ite2 (fun e => ?_) (fun e => ?_)
  · exact q _ _ (b2.trans Bt.st) hd3 (.inl (by omega)) (by rw [Int.natAbs_neg]; exact i1)
  · exact q _ _ (b2.trans Bt.st) hd3 (.inr i0) i1
def sp__law_part (K : PySem.W.Frag) : Sp := fun vs H Q _ => ∃ (d : Addr) (code : Int) (c : Ct), vs = [.ref d, .int code] ∧ H d = some (.dK c) ∧ Ints c ∧ c.length ≤ 50 ∧
  ∀ (H' : Hp) (r : Addr) (c' : Ct), Same H H' → H r = none → H' r = some (.dK c') → Ints c' → c'.length ≤ c.length → Q (.ref r) H'
theorem len__law_part {vs : List V} {H : Hp} {Q : VK} {E : XK} (h : sp__law_part K vs H Q E) : vs.length = 2 := by
  obtain ⟨_, _, _, rfl, _⟩ := h
  rfl
theorem val_some {c : Ct} {i : Nat} {k : Key} {v : V} (h : c[i]? = some (k, v)) : ∃ v', valV c k = some v' := by
  unfold valV
  cases hf : c.find? (fun kv => decide (kv.1 = k)) with
  | none =>
    have := List.find?_eq_none.mp hf (k, v) (List.mem_of_getElem? h)
    simp at this
  | some p => exact ⟨_, rfl⟩
theorem ok__law_part {f : Addr} {fd : FuncData} (F : Fun K "_law_part" "_law_part" s__law_part f fd) (T : Gs K mg t_BOUND t_LETTERS t_LONGEST_NAME a_RESERVED a_BadName a_BadNumber a_Change a_ElseputError a_TooLarge a_UnknownField a_UnknownKey a_UnknownName a_UnknownShape) : FnOk P w K mg base CX0 1 f fd ["_law_content", "_law_code"] (sp__law_part K) := by
  refine F.ok sc__law_part (fun vs H Q E h => len__law_part h) (fun cdv A outer s H vs Q E hr h => ?_)
  obtain ⟨d, code, c, rfl, hd, hI, hcl, q⟩ := h
  refine ⟨_, (pss_cons (ps_set (i := 2) sc__law_part.nd rfl (.inl rfl) pe_dnewK) (pss_cons (ps_lock (ps_for PassesOwn.never rfl (pi_keys (v_ 0)) (pg_name (i := 3) sc__law_part.nd rfl (.inl rfl)) (Evl.pss_cut (ps_if (pt_c (eqK K hr.units) (pe_op op_modM (v_ 1) pe_int) pe_int) (pss_one (ps_asg (pe_dget (hu_of hr) (v_ 0) (v_ 3) (fun _ _ => rfl)) (pg_sub (v_ 2) (v_ 3) (set_dict (hu_of hr))))) pss_nil) (pss_one (ps_set (i := 1) sc__law_part.nd rfl (.inl rfl) (pe_op op_divM (v_ 1) pe_int)))))) (pss_one (ps_ret (v_ 2))))), ?_⟩
  refine fun r nr => ?_
  have dr : d ≠ r := ne_of_none hd nr
  have s0 := same_new (o := .dK []) nr
  refine ⟨d, .dK c, s0 _ _ hd, True.intro, fun od => ?_⟩
  refine ⟨d, od, rfl, .inl ⟨c, upd_same, ?_⟩⟩
  refine for_it walk_keys (fun i σ' H' => ∃ (code : Int) (y : Option V) (c' : Ct), σ' = [some (.ref d), some (.int code), some (.ref r), y] ∧ H' d = some (.frz od (.dK c)) ∧ H' r = some (.dK c') ∧ Ints c' ∧ c'.length ≤ i ∧ (∀ b o, b ≠ r → b ≠ d → H b = some o → H' b = some o)) ⟨code, _, [], rfl, upd_same, by rw [upd_ne dr.symm, upd_same], (fun k v h => nomatch h), Nat.le_refl _, fun b o n1 n2 hb => by rw [upd_ne n2, upd_ne n1]; exact hb⟩ (fun i σ' H' _ ⟨_, _, _, _, h, _⟩ => h) ?_ ?_
  · rintro i x σ' H2 H3 hi ⟨code, y, c', rfl, h1, h2, h3, h4, h5⟩ ⟨rfl, k, v, hk, rfl⟩
    obtain ⟨v', hv'⟩ := val_some hk
    obtain ⟨m, rfl⟩ := hI _ _ hv'
    refine ⟨fun σ' H' => ∃ (c' : Ct), σ' = [some (.ref d), some (.int code), some (.ref r), some (kV k)] ∧ H' d = some (.frz od (.dK c)) ∧ H' r = some (.dK c') ∧ Ints c' ∧ c'.length ≤ i + 1 ∧ (∀ b o, b ≠ r → b ≠ d → H b = some o → H' b = some o), ?_, ?_⟩
    · refine ⟨by decide, ?_⟩
      refine ite2 (fun e => ?_) (fun e => ?_)
      · have ga : DGet H3 d (kV k) (some (.int m)) := .inl ⟨_, k, .inr ⟨od, h1⟩, rfl, hv'.symm⟩
        have hi2 : i < c.length := hi
        refine ⟨d, _, rfl, ga, r, _, rfl, DPut.k (k := k) h2 (line_lt (by omega)), ?_⟩
        exact ⟨_, rfl, by rw [upd_ne dr]; exact h1, upd_same, h3.put _ _, Nat.le_trans (length_putK _ _ _) (by omega), fun b o n1 n2 hb => by rw [upd_ne n1]; exact h5 b o n1 n2 hb⟩
      · exact ⟨c', rfl, h1, h2, h3, by omega, h5⟩
    · rintro σ' H' ⟨c', rfl, h1, h2, h3, h4, h5⟩
      refine ⟨.inl ⟨by decide, by decide⟩, ?_⟩
      exact ⟨_, _, c', rfl, h1, h2, h3, h4, h5⟩
  · rintro σ' H2 ⟨code, y, c', rfl, h1, h2, h3, h4, h5⟩
    refine ⟨h1, ?_⟩
    refine q _ r c' (fun b o hb => ?_) nr (by rw [upd_ne dr.symm]; exact h2) h3 h4
    by_cases e : b = d
    · rw [e, hd] at hb
      cases hb
      rw [e, upd_same]
    · rw [upd_ne e]
      exact h5 b o (ne_of_none hb nr) e hb
end
section
variable {P : Program} {w : World} {K : PySem.W.Frag} {mg : Str → Option Value} {base : Heap}
variable {t_BOUND t_LETTERS t_LONGEST_NAME : Tok} {a_RESERVED a_BadName a_BadNumber a_Change a_ElseputError a_TooLarge a_UnknownField a_UnknownKey a_UnknownName a_UnknownShape : Addr}
def Told (H' : Hp) (t : Addr) (c : Ct) (xs : List Rw) (H : Hp) : Prop := match missF c xs with
  | none => ∃ r d1 : Addr, H' t = some (.tup [.str "let", .ref r, .ref d1]) ∧ H' r = some (.dK (applyR c xs)) ∧ H' d1 = some (.dK c) ∧ H r = none ∧ H d1 = none ∧ r ≠ d1
  | some z => ∃ d1 : Addr, H' t = some (.tup [.str "missing", .str z, .ref d1]) ∧ H' d1 = some (.dK c) ∧ H d1 = none
def sp__law_ask (K : PySem.W.Frag) : Sp := fun vs H Q _ => ∃ (a p : Addr) (xs : List Rw) (c : Ct), vs = [.ref a, .ref p] ∧ ChAt K H a xs ∧ xs.length ≤ 20 ∧ H p = some (.dK c) ∧ Ints c ∧ c.length ≤ 100 ∧ (∀ x ∈ xs, isName x.f = true) ∧
  ∀ (H' : Hp) (t : Addr), Same H H' → H t = none → Told H' t c xs H → Q (.ref t) H'
theorem len__law_ask {vs : List V} {H : Hp} {Q : VK} {E : XK} (h : sp__law_ask K vs H Q E) : vs.length = 2 := by
  obtain ⟨_, _, _, _, rfl, _⟩ := h
  rfl
theorem ok__law_ask {f : Addr} {fd : FuncData} {f_Change___call__ : Addr} {fd_Change___call__ : FuncData} (F : Fun K "_law_ask" "_law_ask" s__law_ask f fd) (T : Gs K mg t_BOUND t_LETTERS t_LONGEST_NAME a_RESERVED a_BadName a_BadNumber a_Change a_ElseputError a_TooLarge a_UnknownField a_UnknownKey a_UnknownName a_UnknownShape) (c_Change___call__ : CalC P w K mg base (L2.CX P w) 3 a_Change f_Change___call__ fd_Change___call__ ["self", "content"] (sp_Change___call__ K)) : FnOk P w K mg base CX0 4 f fd ["_law_made_here", "_law_content"] (sp__law_ask K) := by
  refine F.ok sc__law_ask (fun vs H Q E h => len__law_ask h) (fun cdv A outer s H vs Q E hr h => ?_)
  obtain ⟨a, p, xs, c, rfl, hA, lx, hp, hI, hcl, hN, q⟩ := h
  obtain ⟨C, dx, t, rs, hC, ha, _⟩ := id hA
  cases hC.symm.trans T.n_Change
  refine ⟨_, (pss_cons (ps_set (i := 2) sc__law_ask.nd rfl (.inl rfl) (pe_callTy call_dictD (by rfl) T.z_dict (by decide +kernel) (pa_cons (v_ 1) pa_nil))) (pss_cons (ps_try_as (i := 3) rfl rfl sc__law_ask.nd rfl rfl ⟨rfl, by decide +kernel, .inl T.g_ElseputError⟩ takes0 (fun W pn xe tk po => (pss_one (ps_set (i := 4) sc__law_ask.nd rfl (.inl rfl) (pe_callOS (v_ 0) c_Change___call__.co c_Change___call__.G c_Change___call__.b (hr.mono (by first | decide | omega)) (fun σ => passAt tk σ) (pa_cons (v_ 2) pa_nil))))) (fun ea oe ecls ed epn hz hf => (Evl.pss_cut (ps_if (PW.pt (pw_and (pt_t K (pe_callB (call_isX hz hf) (by rfl) T.z_isinstance (by decide +kernel) (pa_cons (v_ 3) (pa_cons (pe_glob (v := .ref a_UnknownField) rfl T.g_UnknownField rfl) pa_nil)))) (pw_and (pt_t K (pe_callB (call_isX hz hf) (by rfl) T.z_isinstance (by decide +kernel) (pa_cons (v_ 3) (pa_cons (pe_glob (v := .ref a_UnknownName) rfl T.g_UnknownName rfl) pa_nil)))) (pw_and1 (pt_t K (pe_callB (call_isX hz hf) (by rfl) T.z_isinstance (by decide +kernel) (pa_cons (v_ 3) (pa_cons (pe_bltn (v := .ty "ValueError") (u := .type "ValueError") (by rfl) T.z_ValueError (by decide +kernel) rfl) pa_nil)))))))) (pss_one (ps_if (PW.pt (pw_and (pt_not (pt_t K (pe_callB (call_isX hz hf) (by rfl) T.z_isinstance (by decide +kernel) (pa_cons (v_ 3) (pa_cons (pe_glob (v := .ref a_UnknownKey) rfl T.g_UnknownKey rfl) pa_nil))))) (pw_and1 (pt_not (pt_t K (pe_callB (call_isX hz hf) (by rfl) T.z_isinstance (by decide +kernel) (pa_cons (v_ 3) (pa_cons (pe_glob (v := .ref a_UnknownShape) rfl T.g_UnknownShape rfl) pa_nil)))))))) (pss_one (ps_ret (pe_tup (pa_cons pe_str (pa_cons (pe_xf T.x_UnknownField.xf (T.x_UnknownField.no _ (by decide)) hz hf (v_ 3)) (pa_cons (v_ 2) pa_nil)))))) pss_nil)) pss_nil) (pss_one (ps_ret (pe_tup (pa_cons pe_str pa_nil))))))) (pss_one (ps_ret (pe_tup (pa_cons pe_str (pa_cons (v_ 4) (pa_cons (v_ 2) pa_nil)))))))), ?_⟩
  refine ⟨p, c, rfl, .inl hp, fun d1 n1 => ?_⟩
  have s1 := same_new (o := .dK c) n1
  have hd1 := upd_same (H := H) (a := d1) (o := .dK c)
  refine ⟨a, rfl, ⟨dx, _, s1 _ _ ha⟩, a, d1, xs, c, rfl, hA.same s1, lx, hd1, hI, hcl, hN, ?_⟩
  unfold Told at q
  unfold Calls
  cases hm : missF c xs with
  | none =>
    rw [hm] at q
    intro H2 r s2 nr hr
    refine ⟨(by show 3 ≤ sizeLine; decide), fun t nt => ?_⟩
    have s3 := same_new (o := .tup [.str "let", .ref r, .ref d1]) nt
    exact q _ t ((s1.trans s2).trans s3) (Same.free (s1.trans s2) nt) ⟨r, d1, upd_same, s3 _ _ hr, s3 _ _ (s2 _ _ hd1), free_new nr, n1, (new_ne nr)⟩
  | some z =>
    rw [hm] at q
    intro C3 d H' hC3 sm nd hd
    cases hC3.symm.trans T.n_UnknownField
    refine ⟨true, T.m_UnknownField_ElseputError, fun _ e ne => ?_, fun h => nomatch h⟩
    refine ⟨fun _ _ => False, ?_, fun _ _ h => h.elim⟩
    refine ⟨_, d, _, _, _, true, rfl, rfl, rfl, hd, T.x_UnknownField.is, fun u h => h, T.k_UnknownField_UnknownField, ?_⟩
    refine ⟨_, d, _, _, _, true, rfl, rfl, rfl, hd, T.x_UnknownField.is, fun u h => h, T.k_UnknownField_UnknownName, ?_⟩
    refine ⟨_, d, _, _, _, true, rfl, rfl, rfl, hd, T.x_UnknownField.is, fun u h => h, T.k_UnknownField_ValueError, ?_⟩
    refine ⟨_, d, _, _, _, false, rfl, rfl, rfl, hd, T.x_UnknownField.is, fun u h => h, T.k_UnknownField_UnknownKey, ?_⟩
    refine ⟨_, d, _, _, _, false, rfl, rfl, rfl, hd, T.x_UnknownField.is, fun u h => h, T.k_UnknownField_UnknownShape, ?_⟩
    refine ⟨rfl, rfl, d, _, _, rfl, hd, rfl, (by show 3 ≤ sizeLine; decide), fun t nt => ?_⟩
    have s3 := same_new (o := .tup [.str "missing", .str z, .ref d1]) nt
    exact q _ t ((s1.trans sm).trans s3) (Same.free (s1.trans sm) nt) ⟨d1, upd_same, s3 _ _ (sm _ _ hd1), n1⟩
end
section
variable {P : Program} {w : World} {K : PySem.W.Frag} {mg : Str → Option Value} {base : Heap}
variable {t_BOUND t_LETTERS t_LONGEST_NAME : Tok} {a_RESERVED a_BadName a_BadNumber a_Change a_ElseputError a_TooLarge a_UnknownField a_UnknownKey a_UnknownName a_UnknownShape : Addr}
theorem same_row {H : Hp} {r u : Addr} {x : Rw} {n : Nat} (h1 : RowAt H r x) (h2 : RowAt H u x) : SameV H (n + 2) (.ref r) (.ref u) := by
  refine .inr (.inr (.inl ⟨r, u, _, _, rfl, rfl, .inr ⟨h1, h2⟩, rfl, (by show 3 ≤ 1000; decide), fun i a b ha hb => ?_⟩))
  rw [ha] at hb
  cases hb
  match i, ha with
  | 0, ha => cases ha; exact .inr (.inl ⟨_, rfl, rfl⟩)
  | 1, ha => cases ha; exact .inr (.inl ⟨_, rfl, rfl⟩)
  | 2, ha => cases ha; exact .inl ⟨_, rfl, rfl⟩
  | i + 3, ha => cases ha
theorem same_rows {H : Hp} {n : Nat} : ∀ {rs us : List Addr} {xs : List Rw}, RowsL H rs xs → RowsL H us xs → ∀ (i : Nat) (a b : V), (rs.map V.ref)[i]? = some a → (us.map V.ref)[i]? = some b → SameV H (n + 2) a b
  | [], _, _, _, _, i, a, b, h, _ => by simp at h
  | r :: rs, [], [], h, _, _, _, _, _, _ => False.elim h
  | r :: rs, u :: us, x :: xs, ⟨h1, t1⟩, ⟨h2, t2⟩, i, a, b, ha, hb => by
    cases i with
    | zero =>
      simp at ha hb
      subst ha hb
      exact same_row h1 h2
    | succ i => exact same_rows t1 t2 i a b (by simpa using ha) (by simpa using hb)
theorem same_tup {H : Hp} {t u : Addr} {rs us : List Addr} {xs : List Rw} {n : Nat} (h1 : H t = some (.tup (rs.map V.ref))) (h2 : H u = some (.tup (us.map V.ref))) (r1 : RowsL H rs xs) (r2 : RowsL H us xs) (hl : xs.length ≤ 1000) : SameV H (n + 3) (.ref t) (.ref u) :=
  .inr (.inr (.inl ⟨t, u, _, _, rfl, rfl, .inr ⟨h1, h2⟩, by rw [List.length_map, List.length_map, r1.len, r2.len], by rw [List.length_map, r2.len]; exact hl, same_rows r1 r2⟩))
theorem same_let {H : Hp} {t t2 u v : Addr} {n : Nat} (h1 : H t = some (.tup [.str "let", .ref u])) (h2 : H t2 = some (.tup [.str "let", .ref v])) (h : SameV H (n + 1) (.ref u) (.ref v)) : SameV H (n + 2) (.ref t) (.ref t2) := by
  refine .inr (.inr (.inl ⟨t, t2, _, _, rfl, rfl, .inr ⟨h1, h2⟩, rfl, (by show 2 ≤ 1000; decide), fun i a b ha hb => ?_⟩))
  match i, ha, hb with
  | 0, ha, hb => cases ha; cases hb; exact .inr (.inl ⟨_, rfl, rfl⟩)
  | 1, ha, hb => cases ha; cases hb; exact h
  | i + 2, ha, hb => cases ha
theorem put_keys {c : Ct} {k : Key} {v : V} (h : (valV c k).isSome = true) : (putK c k v).map (·.1) = c.map (·.1) := by
  unfold putK
  rw [valV_any, if_pos h, List.map_map]
  refine List.map_congr_left fun kv _ => ?_
  show (if _ then _ else _ : Key × V).1 = kv.1
  split
  · rename_i e
    simpa using e.symm
  · rfl
theorem app_keys {c : Ct} : ∀ {xs : List Rw}, (∀ x ∈ xs, HasF c x.f) → (applyR c xs).map (·.1) = c.map (·.1) := fun {xs} => by
  induction xs generalizing c with
  | nil => exact fun _ => rfl
  | cons x r ih =>
    intro h
    have := ih (c := stepR c x) fun y hy => (h y (List.mem_cons_of_mem _ hy)).step
    exact this.trans (put_keys (h x List.mem_cons_self))
theorem same_dict {H : Hp} {p d : Addr} {c : Ct} {n : Nat} (h1 : H p = some (.dK c)) (h2 : H d = some (.dK c)) (hI : Ints c) : SameV H (n + 2) (.ref p) (.ref d) := by
  refine .inr (.inr (.inr ⟨p, d, _, _, rfl, rfl, h1, h2, rfl, by omega, fun j k v hk => ?_⟩))
  obtain ⟨v', hv'⟩ := val_some hk
  obtain ⟨m, rfl⟩ := hI _ _ hv'
  exact ⟨m, hv', hv'⟩
theorem same_keys {H : Hp} {n : Nat} {p d : Addr} {xs : List Key} (h1 : H p = some (.lst (xs.map kV))) (h2 : H d = some (.lst (xs.map kV))) (hl : xs.length ≤ 1000) : SameV H (n + 2) (.ref p) (.ref d) := by
  refine .inr (.inr (.inl ⟨p, d, _, _, rfl, rfl, .inl ⟨h1, h2⟩, rfl, by rw [List.length_map]; exact hl, fun i a b ha hb => ?_⟩))
  rw [ha] at hb
  cases hb
  rw [List.getElem?_map] at ha
  obtain ⟨k, hk, rfl⟩ := Option.map_eq_some_iff.mp ha
  cases k with
  | inl i => exact .inl ⟨i, rfl, rfl⟩
  | inr z => exact .inr (.inl ⟨z, rfl, rfl⟩)
theorem same3 {H : Hp} {t t2 : Addr} {w : Str} {x y u v : V} {n : Nat} (h1 : H t = some (.tup [.str w, x, y])) (h2 : H t2 = some (.tup [.str w, u, v])) (hx : SameV H (n + 1) x u) (hy : SameV H (n + 1) y v) : SameV H (n + 2) (.ref t) (.ref t2) := by
  refine .inr (.inr (.inl ⟨t, t2, _, _, rfl, rfl, .inr ⟨h1, h2⟩, rfl, (by show 3 ≤ 1000; decide), fun i a b ha hb => ?_⟩))
  match i, ha, hb with
  | 0, ha, hb => cases ha; cases hb; exact .inr (.inl ⟨_, rfl, rfl⟩)
  | 1, ha, hb => cases ha; cases hb; exact hx
  | 2, ha, hb => cases ha; cases hb; exact hy
  | i + 3, ha, hb => cases ha
def DueM (c : Ct) (xs : List Rw) (d : Addr) : List V := match missF c xs with
  | none => [.str "let", .ref d, .ref d]
  | some z => [.str "missing", .str z, .ref d]
def sp__law_acts (K : PySem.W.Frag) : Sp := fun vs H Q _ => ∃ (a p d : Addr) (rs : List Addr) (xs : List Rw) (c : Ct), vs = [.ref a, .ref p, .ref d] ∧ ChAt K H a xs ∧ H p = some (.lst (rs.map V.ref)) ∧ RowsL H rs xs ∧ Good xs ∧ H d = some (.dK c) ∧ Ints c ∧ c.length ≤ 100 ∧ ∀ H', Same H H' → Q (.bl true) H'
theorem len__law_acts {vs : List V} {H : Hp} {Q : VK} {E : XK} (h : sp__law_acts K vs H Q E) : vs.length = 3 := by
  obtain ⟨_, _, _, _, _, _, rfl, _⟩ := h
  rfl
theorem ok__law_acts {f : Addr} {fd : FuncData} {f__law_ask : Addr} {fd__law_ask : FuncData} {f__law_same : Addr} {fd__law_same : FuncData} {f__law_changed : Addr} {fd__law_changed : FuncData} (F : Fun K "_law_acts" "_law_acts" s__law_acts f fd) (T : Gs K mg t_BOUND t_LETTERS t_LONGEST_NAME a_RESERVED a_BadName a_BadNumber a_Change a_ElseputError a_TooLarge a_UnknownField a_UnknownKey a_UnknownName a_UnknownShape) (c__law_ask : Cal P w K mg base CX0 4 "_law_ask" f__law_ask fd__law_ask ["_law_made_here", "_law_content"] (sp__law_ask K)) (c__law_same : Cal P w K mg base CX0 6 "_law_same" f__law_same fd__law_same ["_law_actual", "_law_due"] (sp__law_same K)) (c__law_changed : Cal P w K mg base CX0 1 "_law_changed" f__law_changed fd__law_changed ["_law_rows", "_law_content"] (sp__law_changed K)) : FnOk P w K mg base CX0 9 f fd ["_law_made_here", "_law_rows", "_law_content"] (sp__law_acts K) := by
  refine F.ok sc__law_acts (fun vs H Q E h => len__law_acts h) (fun cdv A outer s H vs Q E hr h => ?_)
  obtain ⟨a, p, d, rs, xs, c, rfl, hA, hp, hrs, gx, hd, hI, hcl, q⟩ := h
  have lx := gx.2.2
  refine ⟨_, (pss_cons (ps_set (i := 3) sc__law_acts.nd rfl (.inl rfl) (pe_tup (pa_cons pe_str (pa_cons (v_ 2) (pa_cons (v_ 2) pa_nil))))) (pss_cons (ps_for PassesOwn.never rfl (pi_list (v_ 1)) (pg_name (i := 4) sc__law_acts.nd rfl (.inl rfl)) (pss_one (ps_if (PW.pt (pw_and (pt_cmp (pc_dnotin (hu_of hr) (e_x K (v_ 4) pe_int) (v_ 2))) (pw_and1 (pt_c (eqK K hr.units) (e_x K (v_ 3) pe_int) pe_str)))) (pss_one (ps_set (i := 3) sc__law_acts.nd rfl (.inl rfl) (pe_tup (pa_cons pe_str (pa_cons (e_x K (v_ 4) pe_int) (pa_cons (v_ 2) pa_nil)))))) pss_nil))) (Evl.pss_cut (ps_if (pt_c (eqK K hr.units) (e_x K (v_ 3) pe_int) pe_str) (pss_one (ps_set (i := 3) sc__law_acts.nd rfl (.inl rfl) (pe_tup (pa_cons pe_str (pa_cons (pe_call c__law_changed.G (hr.mono (by first | decide | omega)) rfl c__law_changed.m c__law_changed.kp c__law_changed.b .nil pass0 (pa_cons (v_ 1) (pa_cons (v_ 2) pa_nil))) (pa_cons (v_ 2) pa_nil)))))) pss_nil) (pss_cons (ps_set (i := 5) sc__law_acts.nd rfl (.inl rfl) (pe_call c__law_ask.G (hr.mono (by first | decide | omega)) rfl c__law_ask.m c__law_ask.kp c__law_ask.b .nil pass0 (pa_cons (v_ 0) (pa_cons (v_ 2) pa_nil)))) (pss_cons (ps_if (pt_not (pt_t K (pe_call c__law_same.G (hr.mono (by first | decide | omega)) rfl c__law_same.m c__law_same.kp c__law_same.b .nil pass0 (pa_cons (v_ 5) (pa_cons (v_ 3) pa_nil))))) (pss_one (ps_ret pe_bl)) pss_nil) (pss_cons (ps_if (pt_c (eqK K hr.units) (e_x K (v_ 3) pe_int) pe_str) (pss_one (ps_ret pe_bl)) pss_nil) (pss_cons (ps_if (pt_not (pt_t K (pe_call c__law_same.G (hr.mono (by first | decide | omega)) rfl c__law_same.m c__law_same.kp c__law_same.b .nil pass0 (pa_cons (pe_callTy (call_list_dK rfl) (by rfl) T.z_list (by decide +kernel) (pa_cons (e_x K (v_ 5) pe_int) pa_nil)) (pa_cons (pe_callTy (call_list_dK rfl) (by rfl) T.z_list (by decide +kernel) (pa_cons (v_ 2) pa_nil)) pa_nil))))) (pss_one (ps_ret pe_bl)) pss_nil) (pss_cons (ps_expr (pe_dclear (e_x K (v_ 5) pe_int))) (pss_one (ps_ret (pe_call c__law_same.G (hr.mono (by first | decide | omega)) rfl c__law_same.m c__law_same.kp c__law_same.b .nil pass0 (pa_cons (e_x K (v_ 5) pe_int) (pa_cons (v_ 2) pa_nil))))))))))))), ?_⟩
  refine ⟨(by show 3 ≤ sizeLine; decide), fun t0 n0 => ?_⟩
  have s0 := same_new (o := .tup [.str "let", .ref d, .ref d]) n0
  refine ⟨p, rfl, ⟨_, SqL.of (s0 _ _ hp)⟩, ?_⟩
  refine for_list (K := K) (a := p) (xs := rs.map V.ref) (fun i σ' H' => ∃ (t : Addr) (y : Option V), σ' = [some (.ref a), some (.ref p), some (.ref d), some (.ref t), y, none] ∧ Same H H' ∧ H' t = some (.tup (DueM c (xs.take i) d))) ⟨t0, _, rfl, s0, upd_same⟩ (fun i σ' H' _ ⟨_, _, _, h, _⟩ => SqL.of (h _ _ hp)) ?_ ?_
  · rintro i v σ' H' hi ⟨t, y, rfl, sm, ht⟩
    rw [List.getElem?_map] at hi
    obtain ⟨k, hk, rfl⟩ := Option.map_eq_some_iff.mp hi
    obtain ⟨x, hx, hax⟩ := hrs.get hk
    have hat := sm _ _ hax
    have hms : missF c (xs.take (i + 1)) = (missF c (xs.take i)).or (if HasF c x.f then none else some x.f) := by rw [take_snoc hx, miss_snoc]
    refine ⟨_, .inr (SqT.of hat), .str x.f, rfl, d, _, rfl, DGet.k (k := kS x.f) (sm _ _ hd), ?_⟩
    refine ⟨_, rfl, ?_⟩
    refine ite2 (fun e => ?_) (fun e => ?_)
    · have hm : ¬ HasF c x.f := by
        have e : (!(valV c (kS x.f)).isSome) = true := by simpa using e
        unfold HasF
        rw [Bool.not_eq_true'] at e
        rw [e]
        decide
      rw [if_neg hm] at hms
      cases hq : missF c (xs.take i) with
      | none =>
        have ht' : H' t = some (.tup [.str "let", .ref d, .ref d]) := by unfold DueM at ht; rw [hq] at ht; exact ht
        rw [hq] at hms
        refine ⟨_, .inr (SqT.of ht'), .str "let", rfl, ?_⟩
        refine ⟨_, .inr (SqT.of hat), .str x.f, rfl, (by show 3 ≤ sizeLine; decide), fun t2 n2 => ?_⟩
        refine ⟨t2, _, rfl, sm.trans (same_new n2), ?_⟩
        unfold DueM
        rw [hms]
        exact upd_same
      | some z =>
        have ht' : H' t = some (.tup [.str "missing", .str z, .ref d]) := by unfold DueM at ht; rw [hq] at ht; exact ht
        rw [hq] at hms
        refine ⟨_, .inr (SqT.of ht'), .str "missing", rfl, ?_⟩
        refine ⟨t, _, rfl, sm, ?_⟩
        unfold DueM
        rw [hms]
        exact ht'
    · have hm : HasF c x.f := by
        unfold HasF
        by_cases h : (valV c (kS x.f)).isSome = true
        · exact h
        · exact absurd (by simpa using h) e
      rw [if_pos hm] at hms
      refine ite2 (fun e3 => nomatch e3) (fun _ => ?_)
      refine ⟨t, _, rfl, sm, ?_⟩
      unfold DueM at ht ⊢
      rw [hms]
      cases hq : missF c (xs.take i) with
      | none => rw [hq] at ht; exact ht
      | some z => rw [hq] at ht; exact ht
  rintro σ' H1 ⟨t, y, rfl, sm, ht⟩
  rw [List.length_map, hrs.len, List.take_length] at ht
  have hN : ∀ x ∈ xs, isName x.f = true := fun x hx => (gx.1 x hx).1
  cases hq : missF c xs with
  | none =>
    have hF := miss_none.mp hq
    have ht' : H1 t = some (.tup [.str "let", .ref d, .ref d]) := by unfold DueM at ht; rw [hq] at ht; exact ht
    refine ⟨fun σ' H' => ∃ (t d2 : Addr), σ' = [some (.ref a), some (.ref p), some (.ref d), some (.ref t), y, none] ∧ Same H1 H' ∧ H' t = some (.tup [.str "let", .ref d2, .ref d]) ∧ H' d2 = some (.dK (applyR c xs)), ?_, ?_⟩
    · refine ⟨_, .inr (SqT.of ht'), .str "let", rfl, ?_⟩
      refine ⟨p, d, rs, xs, c, rfl, sm _ _ hp, hrs.same sm, by omega, sm _ _ hd, hI, hcl, hF, fun H2 r s2 nr hr => ?_⟩
      refine ⟨(by show 3 ≤ sizeLine; decide), fun t2 n2 => ?_⟩
      have s3 := same_new (o := .tup [.str "let", .ref r, .ref d]) n2
      exact ⟨t2, r, rfl, s2.trans s3, upd_same, s3 _ _ hr⟩
    rintro σ' H2 ⟨t, d2, rfl, s2, ht2, hd2⟩
    have sm2 := sm.trans s2
    refine ⟨a, d, xs, c, rfl, hA.same sm2, by omega, sm2 _ _ hd, hI, hcl, hN, fun H3 t3 s3 nt3 hT => ?_⟩
    unfold Told at hT
    rw [hq] at hT
    obtain ⟨r, d1, h1, h2, h3, n1, n2, hne⟩ := hT
    have sm3 := sm2.trans s3
    have lk := app_keys (c := c) (xs := xs) hF
    have ll := app_len (c := c) xs hF
    refine ⟨_, _, rfl, same3 h1 (s3 _ _ ht2) (same_dict h2 (s3 _ _ hd2) (hI.app xs)) (same_dict h3 (sm3 _ _ hd) hI), ?_⟩
    refine ⟨_, .inr (SqT.of (s3 _ _ ht2)), .str "let", rfl, ?_⟩
    refine ⟨_, .inr (SqT.of h1), .ref r, rfl, r, _, rfl, h2, fun v1 nv1 => ?_⟩
    have s4 := same_new (o := .lst ((applyR c xs).map fun kv => kV kv.1)) nv1
    refine ⟨d, c, rfl, s4 _ _ (sm3 _ _ hd), fun v2 nv2 => ?_⟩
    have s5 := same_new (o := .lst (c.map fun kv => kV kv.1)) nv2
    have e1 : (applyR c xs).map (fun kv => kV kv.1) = (c.map (·.1)).map kV := by rw [← lk, List.map_map]; rfl
    have e2 : c.map (fun kv => kV kv.1) = (c.map (·.1)).map kV := by rw [List.map_map]; rfl
    refine ⟨_, _, rfl, same_keys (xs := c.map (·.1)) (s5 _ _ (by rw [upd_same, e1])) (by rw [upd_same, e2]) (by rw [List.length_map]; omega), ?_⟩
    have s45 := s4.trans s5
    generalize upd (upd H3 v1 _) v2 _ = H5 at s45 ⊢
    refine ⟨_, .inr (SqT.of (s45 _ _ h1)), .ref r, rfl, .inr (.inr (.inl ⟨rfl, .inl ⟨_, s45 _ _ h2⟩⟩)), r, _, rfl, rfl, s45 _ _ h2, ?_⟩
    have rH : H r = none := Same.free sm2 n1
    have rt : t3 ≠ r := ne_of h1 h2 (by intro e; cases e)
    have s6 : Same H (upd H5 r (.dK [])) := fun b o hb => by
      rw [upd_ne (ne_of_none hb rH)]
      exact s45 _ _ (sm3 _ _ hb)
    have h1' : upd H5 r (.dK []) t3 = some (.tup [.str "let", .ref r, .ref d1]) := by rw [upd_ne rt]; exact s45 _ _ h1
    have h3' : upd H5 r (.dK []) d1 = some (.dK c) := by rw [upd_ne (Ne.symm hne)]; exact s45 _ _ h3
    refine ⟨_, .inr (SqT.of h1'), .ref d1, rfl, _, _, rfl, same_dict h3' (s6 _ _ hd) hI, ?_⟩
    exact q _ s6
  | some z =>
    have ht' : H1 t = some (.tup [.str "missing", .str z, .ref d]) := by unfold DueM at ht; rw [hq] at ht; exact ht
    refine ⟨fun σ' H' => σ' = [some (.ref a), some (.ref p), some (.ref d), some (.ref t), y, none] ∧ H' = H1, ?_, ?_⟩
    · refine ⟨_, .inr (SqT.of ht'), .str "missing", rfl, ?_⟩
      exact ⟨rfl, rfl⟩
    rintro σ' H2 ⟨rfl, rfl⟩
    refine ⟨a, d, xs, c, rfl, hA.same sm, by omega, sm _ _ hd, hI, hcl, hN, fun H3 t3 s3 nt3 hT => ?_⟩
    unfold Told at hT
    rw [hq] at hT
    obtain ⟨d1, h1, h3, n2⟩ := hT
    have sm3 := sm.trans s3
    refine ⟨_, _, rfl, same3 h1 (s3 _ _ ht') (.inr (.inl ⟨_, rfl, rfl⟩)) (same_dict h3 (sm3 _ _ hd) hI), ?_⟩
    refine ⟨_, .inr (SqT.of (s3 _ _ ht')), .str "missing", rfl, ?_⟩
    exact q _ sm3
end
section
variable {P : Program} {w : World} {K : PySem.W.Frag} {mg : Str → Option Value} {base : Heap}
variable {t_BOUND t_LETTERS t_LONGEST_NAME : Tok} {a_RESERVED a_BadName a_BadNumber a_Change a_ElseputError a_TooLarge a_UnknownField a_UnknownKey a_UnknownName a_UnknownShape : Addr}
def MadeAt (H : Hp) (t : Addr) (z : Str) (b : Bool) (i : Int) : Prop := if isName z = true then (if inB i = true then ∃ (u : Addr) (rs : List Addr), H t = some (.tup [.str "let", .ref u]) ∧ H u = some (.tup (rs.map V.ref)) ∧ RowsL H rs [⟨z, b, i⟩] else H t = some (.tup [.str "number", .int i])) else H t = some (.tup [.str "name", .str z])
def sp__law_made (K : PySem.W.Frag) : Sp := fun vs H Q _ => ∃ (b : Bool) (z : Str) (i : Int), vs = [.str (deed b), .str z, .int i] ∧ z.length ≤ 1000 ∧ Asc z ∧ i.natAbs < 2 ^ 200 ∧ ∀ (H' : Hp) (t : Addr), Same H H' → H t = none → MadeAt H' t z b i → Q (.ref t) H'
theorem len__law_made {vs : List V} {H : Hp} {Q : VK} {E : XK} (h : sp__law_made K vs H Q E) : vs.length = 3 := by
  obtain ⟨_, _, _, rfl, _⟩ := h
  rfl
theorem ok__law_made {f : Addr} {fd : FuncData} {f_Change_setting : Addr} {fd_Change_setting : FuncData} {p_Change_setting : Addr} {f_Change_adding : Addr} {fd_Change_adding : FuncData} {p_Change_adding : Addr} (F : Fun K "_law_made" "_law_made" s__law_made f fd) (T : Gs K mg t_BOUND t_LETTERS t_LONGEST_NAME a_RESERVED a_BadName a_BadNumber a_Change a_ElseputError a_TooLarge a_UnknownField a_UnknownKey a_UnknownName a_UnknownShape) (c_Change_setting : CalS P w K mg base (L2.CX P w) 4 a_Change p_Change_setting "setting" f_Change_setting fd_Change_setting ["field", "number"] (sp_Change_setting K)) (c_Change_adding : CalS P w K mg base (L2.CX P w) 4 a_Change p_Change_adding "adding" f_Change_adding fd_Change_adding ["field", "number"] (sp_Change_adding K)) : FnOk P w K mg base CX0 5 f fd ["_law_word", "_law_field", "_law_number_here"] (sp__law_made K) := by
  refine F.ok sc__law_made (fun vs H Q E h => len__law_made h) (fun cdv A outer s H vs Q E hr h => ?_)
  obtain ⟨b, z, i, rfl, hz, ha, hi, q⟩ := h
  refine ⟨_, (pss_cons (ps_try_as (i := 3) rfl rfl sc__law_made.nd rfl rfl ⟨rfl, by decide +kernel, .inl T.g_ElseputError⟩ takes0 (fun W pn xe tk po => (pss_cons (ps_if (pt_c (eqK K hr.units) (v_ 0) pe_str) (pss_one (ps_ret (pe_tup (pa_cons pe_str (pa_cons (e_f K (pe_smethS (pe_glob (v := .ref a_Change) rfl T.g_Change rfl) c_Change_adding.rd c_Change_adding.sm c_Change_adding.G (hr.mono (by first | decide | omega)) c_Change_adding.b (fun σ => passAt tk σ) (pa_cons (v_ 1) (pa_cons (v_ 2) pa_nil)))) pa_nil))))) pss_nil) (pss_one (ps_ret (pe_tup (pa_cons pe_str (pa_cons (e_f K (pe_smethS (pe_glob (v := .ref a_Change) rfl T.g_Change rfl) c_Change_setting.rd c_Change_setting.sm c_Change_setting.G (hr.mono (by first | decide | omega)) c_Change_setting.b (fun σ => passAt tk σ) (pa_cons (v_ 1) (pa_cons (v_ 2) pa_nil)))) pa_nil))))))) (fun ea oe ecls ed epn hz hf => (pss_cons (ps_set (i := 4) sc__law_made.nd rfl (.inl rfl) (pe_tup (pa_cons (pe_callB (call_isX hz hf) (by rfl) T.z_isinstance (by decide +kernel) (pa_cons (v_ 3) (pa_cons (pe_glob (v := .ref a_BadName) rfl T.g_BadName rfl) pa_nil))) (pa_cons (pe_callB (call_isX hz hf) (by rfl) T.z_isinstance (by decide +kernel) (pa_cons (v_ 3) (pa_cons (pe_glob (v := .ref a_BadNumber) rfl T.g_BadNumber rfl) pa_nil))) (pa_cons (pe_callB (call_isX hz hf) (by rfl) T.z_isinstance (by decide +kernel) (pa_cons (v_ 3) (pa_cons (pe_bltn (v := .ty "ValueError") (u := .type "ValueError") (by rfl) T.z_ValueError (by decide +kernel) rfl) pa_nil))) pa_nil))))) (pss_cons (ps_if (pt_c (eqK K hr.units) (v_ 4) (pe_tup (pa_cons pe_bl (pa_cons pe_bl (pa_cons pe_bl pa_nil))))) (pss_one (ps_ret (pe_tup (pa_cons pe_str (pa_cons (pe_xf T.x_BadName.xf (T.x_BadName.no _ (by decide)) hz hf (v_ 3)) pa_nil))))) pss_nil) (pss_one (ps_if (pt_c (eqK K hr.units) (v_ 4) (pe_tup (pa_cons pe_bl (pa_cons pe_bl (pa_cons pe_bl pa_nil))))) (pss_one (ps_ret (pe_tup (pa_cons pe_str (pa_cons (pe_xf T.x_BadNumber.xf (T.x_BadNumber.no _ (by decide)) hz hf (v_ 3)) pa_nil))))) pss_nil)))))) (pss_one (ps_ret (pe_tup (pa_cons pe_str pa_nil))))), ?_⟩
  refine ite2 (fun e => ?_) (fun e => ?_)
  · have eb : b = true := by
      cases b with
      | true => first | rfl | exact absurd (by decide +kernel) e
      | false => first | rfl | exact absurd e (by decide +kernel)
    subst eb
    refine ⟨rfl, z, i, rfl, hz, ha, hi, ?_⟩
    by_cases hn : isName z = true
    · rw [if_pos hn]
      by_cases hb : inB i = true
      · rw [if_pos hb]
        intro H' a' sm na hA'
        obtain ⟨C3, dz, t3, rs3, hC3, ha3, ht3, hrs3⟩ := id hA'
        cases hC3.symm.trans T.n_Change
        refine ⟨a', a_Change, dz, _, _, rfl, ha3, T.cl_Change, T.na_Change_assignments, rfl, ?_⟩
        refine ⟨(by show 2 ≤ sizeLine; decide), fun t nt => ?_⟩
        have s3 := same_new (o := .tup [.str "let", .ref t3]) nt
        refine q _ t (sm.trans s3) (Same.free sm nt) ?_
        unfold MadeAt
        rw [if_pos hn, if_pos hb]
        exact ⟨t3, rs3, upd_same, s3 _ _ ht3, hrs3.same s3⟩
      · rw [if_neg hb]
        intro C3 d H' hC3 sm nd hd
        cases hC3.symm.trans T.n_BadNumber
        refine ⟨true, T.m_BadNumber_ElseputError, fun _ e ne => ?_, fun h => nomatch h⟩
        refine ⟨_, d, _, _, _, false, rfl, rfl, rfl, hd, T.x_BadNumber.is, fun u h => h, T.k_BadNumber_BadName, ?_⟩
        refine ⟨_, d, _, _, _, true, rfl, rfl, rfl, hd, T.x_BadNumber.is, fun u h => h, T.k_BadNumber_BadNumber, ?_⟩
        refine ⟨_, d, _, _, _, true, rfl, rfl, rfl, hd, T.x_BadNumber.is, fun u h => h, T.k_BadNumber_ValueError, ?_⟩
        refine ⟨(by show 3 ≤ sizeLine; decide), fun t1 n1 => ?_⟩
        refine ⟨(by show 3 ≤ sizeLine; decide), fun t2 n2 => ?_⟩
        have s1 := same_new (o := .tup [.bl false, .bl true, .bl true]) n1
        have s2 := same_new (o := .tup [.bl true, .bl false, .bl true]) n2
        have h1 := s2 _ _ (upd_same (H := H') (a := t1) (o := .tup [.bl false, .bl true, .bl true]))
        have h2 := upd_same (H := upd H' t1 (.tup [.bl false, .bl true, .bl true])) (a := t2) (o := .tup [.bl true, .bl false, .bl true])
        refine ⟨_, _, .tup (SqT.of h1) (.cons (.bl _) (.cons (.bl _) (.cons (.bl _) .nil))), .tup (SqT.of h2) (.cons (.bl _) (.cons (.bl _) (.cons (.bl _) .nil))), rfl, rfl, ?_⟩
        refine ite2 (fun e => ?_) (fun _ => ?_)
        · exact absurd e (by decide +kernel)
        refine ⟨(by show 3 ≤ sizeLine; decide), fun t4 n4 => ?_⟩
        have s4 := same_new (o := .tup [.bl false, .bl true, .bl true]) n4
        have h4 := upd_same (H := upd (upd H' t1 (.tup [.bl false, .bl true, .bl true])) t2 (.tup [.bl true, .bl false, .bl true])) (a := t4) (o := .tup [.bl false, .bl true, .bl true])
        refine ⟨_, _, .tup (SqT.of (s4 _ _ h1)) (.cons (.bl _) (.cons (.bl _) (.cons (.bl _) .nil))), .tup (SqT.of h4) (.cons (.bl _) (.cons (.bl _) (.cons (.bl _) .nil))), rfl, rfl, ?_⟩
        refine ite2 (fun _ => ?_) (fun e => ?_)
        · have s14 := (s1.trans s2).trans s4
          refine ⟨rfl, rfl, d, _, _, rfl, s14 _ _ hd, rfl, (by show 2 ≤ sizeLine; decide), fun t nt => ?_⟩
          refine q _ t ((sm.trans s14).trans (same_new nt)) (Same.free (sm.trans s14) nt) ?_
          unfold MadeAt
          rw [if_pos hn, if_neg hb]
          exact upd_same
        · exact absurd (by decide +kernel) e
    · rw [if_neg hn]
      intro C3 d H' hC3 sm nd hd
      cases hC3.symm.trans T.n_BadName
      refine ⟨true, T.m_BadName_ElseputError, fun _ e ne => ?_, fun h => nomatch h⟩
      refine ⟨_, d, _, _, _, true, rfl, rfl, rfl, hd, T.x_BadName.is, fun u h => h, T.k_BadName_BadName, ?_⟩
      refine ⟨_, d, _, _, _, false, rfl, rfl, rfl, hd, T.x_BadName.is, fun u h => h, T.k_BadName_BadNumber, ?_⟩
      refine ⟨_, d, _, _, _, true, rfl, rfl, rfl, hd, T.x_BadName.is, fun u h => h, T.k_BadName_ValueError, ?_⟩
      refine ⟨(by show 3 ≤ sizeLine; decide), fun t1 n1 => ?_⟩
      refine ⟨(by show 3 ≤ sizeLine; decide), fun t2 n2 => ?_⟩
      have s1 := same_new (o := .tup [.bl true, .bl false, .bl true]) n1
      have s2 := same_new (o := .tup [.bl true, .bl false, .bl true]) n2
      have h1 := s2 _ _ (upd_same (H := H') (a := t1) (o := .tup [.bl true, .bl false, .bl true]))
      have h2 := upd_same (H := upd H' t1 (.tup [.bl true, .bl false, .bl true])) (a := t2) (o := .tup [.bl true, .bl false, .bl true])
      refine ⟨_, _, .tup (SqT.of h1) (.cons (.bl _) (.cons (.bl _) (.cons (.bl _) .nil))), .tup (SqT.of h2) (.cons (.bl _) (.cons (.bl _) (.cons (.bl _) .nil))), rfl, rfl, ?_⟩
      refine ite2 (fun _ => ?_) (fun e => ?_)
      · have s14 := s1.trans s2
        refine ⟨rfl, rfl, d, _, _, rfl, s14 _ _ hd, rfl, (by show 2 ≤ sizeLine; decide), fun t nt => ?_⟩
        refine q _ t ((sm.trans s14).trans (same_new nt)) (Same.free (sm.trans s14) nt) ?_
        unfold MadeAt
        rw [if_neg hn]
        exact upd_same
      · exact absurd (by decide +kernel) e
  · have eb : b = false := by
      cases b with
      | true => first | rfl | exact absurd (by decide +kernel) e
      | false => first | rfl | exact absurd e (by decide +kernel)
    subst eb
    refine ⟨rfl, z, i, rfl, hz, ha, hi, ?_⟩
    by_cases hn : isName z = true
    · rw [if_pos hn]
      by_cases hb : inB i = true
      · rw [if_pos hb]
        intro H' a' sm na hA'
        obtain ⟨C3, dz, t3, rs3, hC3, ha3, ht3, hrs3⟩ := id hA'
        cases hC3.symm.trans T.n_Change
        refine ⟨a', a_Change, dz, _, _, rfl, ha3, T.cl_Change, T.na_Change_assignments, rfl, ?_⟩
        refine ⟨(by show 2 ≤ sizeLine; decide), fun t nt => ?_⟩
        have s3 := same_new (o := .tup [.str "let", .ref t3]) nt
        refine q _ t (sm.trans s3) (Same.free sm nt) ?_
        unfold MadeAt
        rw [if_pos hn, if_pos hb]
        exact ⟨t3, rs3, upd_same, s3 _ _ ht3, hrs3.same s3⟩
      · rw [if_neg hb]
        intro C3 d H' hC3 sm nd hd
        cases hC3.symm.trans T.n_BadNumber
        refine ⟨true, T.m_BadNumber_ElseputError, fun _ e ne => ?_, fun h => nomatch h⟩
        refine ⟨_, d, _, _, _, false, rfl, rfl, rfl, hd, T.x_BadNumber.is, fun u h => h, T.k_BadNumber_BadName, ?_⟩
        refine ⟨_, d, _, _, _, true, rfl, rfl, rfl, hd, T.x_BadNumber.is, fun u h => h, T.k_BadNumber_BadNumber, ?_⟩
        refine ⟨_, d, _, _, _, true, rfl, rfl, rfl, hd, T.x_BadNumber.is, fun u h => h, T.k_BadNumber_ValueError, ?_⟩
        refine ⟨(by show 3 ≤ sizeLine; decide), fun t1 n1 => ?_⟩
        refine ⟨(by show 3 ≤ sizeLine; decide), fun t2 n2 => ?_⟩
        have s1 := same_new (o := .tup [.bl false, .bl true, .bl true]) n1
        have s2 := same_new (o := .tup [.bl true, .bl false, .bl true]) n2
        have h1 := s2 _ _ (upd_same (H := H') (a := t1) (o := .tup [.bl false, .bl true, .bl true]))
        have h2 := upd_same (H := upd H' t1 (.tup [.bl false, .bl true, .bl true])) (a := t2) (o := .tup [.bl true, .bl false, .bl true])
        refine ⟨_, _, .tup (SqT.of h1) (.cons (.bl _) (.cons (.bl _) (.cons (.bl _) .nil))), .tup (SqT.of h2) (.cons (.bl _) (.cons (.bl _) (.cons (.bl _) .nil))), rfl, rfl, ?_⟩
        refine ite2 (fun e => ?_) (fun _ => ?_)
        · exact absurd e (by decide +kernel)
        refine ⟨(by show 3 ≤ sizeLine; decide), fun t4 n4 => ?_⟩
        have s4 := same_new (o := .tup [.bl false, .bl true, .bl true]) n4
        have h4 := upd_same (H := upd (upd H' t1 (.tup [.bl false, .bl true, .bl true])) t2 (.tup [.bl true, .bl false, .bl true])) (a := t4) (o := .tup [.bl false, .bl true, .bl true])
        refine ⟨_, _, .tup (SqT.of (s4 _ _ h1)) (.cons (.bl _) (.cons (.bl _) (.cons (.bl _) .nil))), .tup (SqT.of h4) (.cons (.bl _) (.cons (.bl _) (.cons (.bl _) .nil))), rfl, rfl, ?_⟩
        refine ite2 (fun _ => ?_) (fun e => ?_)
        · have s14 := (s1.trans s2).trans s4
          refine ⟨rfl, rfl, d, _, _, rfl, s14 _ _ hd, rfl, (by show 2 ≤ sizeLine; decide), fun t nt => ?_⟩
          refine q _ t ((sm.trans s14).trans (same_new nt)) (Same.free (sm.trans s14) nt) ?_
          unfold MadeAt
          rw [if_pos hn, if_neg hb]
          exact upd_same
        · exact absurd (by decide +kernel) e
    · rw [if_neg hn]
      intro C3 d H' hC3 sm nd hd
      cases hC3.symm.trans T.n_BadName
      refine ⟨true, T.m_BadName_ElseputError, fun _ e ne => ?_, fun h => nomatch h⟩
      refine ⟨_, d, _, _, _, true, rfl, rfl, rfl, hd, T.x_BadName.is, fun u h => h, T.k_BadName_BadName, ?_⟩
      refine ⟨_, d, _, _, _, false, rfl, rfl, rfl, hd, T.x_BadName.is, fun u h => h, T.k_BadName_BadNumber, ?_⟩
      refine ⟨_, d, _, _, _, true, rfl, rfl, rfl, hd, T.x_BadName.is, fun u h => h, T.k_BadName_ValueError, ?_⟩
      refine ⟨(by show 3 ≤ sizeLine; decide), fun t1 n1 => ?_⟩
      refine ⟨(by show 3 ≤ sizeLine; decide), fun t2 n2 => ?_⟩
      have s1 := same_new (o := .tup [.bl true, .bl false, .bl true]) n1
      have s2 := same_new (o := .tup [.bl true, .bl false, .bl true]) n2
      have h1 := s2 _ _ (upd_same (H := H') (a := t1) (o := .tup [.bl true, .bl false, .bl true]))
      have h2 := upd_same (H := upd H' t1 (.tup [.bl true, .bl false, .bl true])) (a := t2) (o := .tup [.bl true, .bl false, .bl true])
      refine ⟨_, _, .tup (SqT.of h1) (.cons (.bl _) (.cons (.bl _) (.cons (.bl _) .nil))), .tup (SqT.of h2) (.cons (.bl _) (.cons (.bl _) (.cons (.bl _) .nil))), rfl, rfl, ?_⟩
      refine ite2 (fun _ => ?_) (fun e => ?_)
      · have s14 := s1.trans s2
        refine ⟨rfl, rfl, d, _, _, rfl, s14 _ _ hd, rfl, (by show 2 ≤ sizeLine; decide), fun t nt => ?_⟩
        refine q _ t ((sm.trans s14).trans (same_new nt)) (Same.free (sm.trans s14) nt) ?_
        unfold MadeAt
        rw [if_neg hn]
        exact upd_same
      · exact absurd (by decide +kernel) e
end
section
variable {P : Program} {w : World} {K : PySem.W.Frag} {mg : Str → Option Value} {base : Heap}
variable {t_BOUND t_LETTERS t_LONGEST_NAME : Tok} {a_RESERVED a_BadName a_BadNumber a_Change a_ElseputError a_TooLarge a_UnknownField a_UnknownKey a_UnknownName a_UnknownShape : Addr}
def Due1 (H : Hp) (t : Addr) (z : Str) (b : Bool) (i : Int) : Prop := if inB i = true then ∃ (u : Addr) (rs : List Addr), H t = some (.tup [.str "let", .ref u]) ∧ H u = some (.tup (rs.map V.ref)) ∧ RowsL H rs [⟨z, b, i⟩] else H t = some (.tup [.str "number", .int i])
theorem same_two {H : Hp} {t t2 : Addr} {w : Str} {x y : V} {n : Nat} (h1 : H t = some (.tup [.str w, x])) (h2 : H t2 = some (.tup [.str w, y])) (h : SameV H (n + 1) x y) : SameV H (n + 2) (.ref t) (.ref t2) := by
  refine .inr (.inr (.inl ⟨t, t2, _, _, rfl, rfl, .inr ⟨h1, h2⟩, rfl, (by show 2 ≤ 1000; decide), fun i a b ha hb => ?_⟩))
  match i, ha, hb with
  | 0, ha, hb => cases ha; cases hb; exact .inr (.inl ⟨_, rfl, rfl⟩)
  | 1, ha, hb => cases ha; cases hb; exact h
  | i + 2, ha, hb => cases ha
theorem made_same {H : Hp} {t u : Addr} {z : Str} {b : Bool} {i : Int} (h1 : MadeAt H t z b i) (h2 : MadeAt H u z b i) : SameV H 4 (.ref t) (.ref u) := by
  unfold MadeAt at h1 h2
  by_cases hn : isName z = true
  · rw [if_pos hn] at h1 h2
    by_cases hb : inB i = true
    · rw [if_pos hb] at h1 h2
      obtain ⟨v, rs, e1, e2, e3⟩ := h1
      obtain ⟨v', rs', f1, f2, f3⟩ := h2
      exact same_two e1 f1 (same_tup e2 f2 e3 f3 (by show 1 ≤ 1000; decide))
    · rw [if_neg hb] at h1 h2
      exact same_two h1 h2 (.inl ⟨i, rfl, rfl⟩)
  · rw [if_neg hn] at h1 h2
    exact same_two h1 h2 (.inr (.inl ⟨z, rfl, rfl⟩))
theorem due_same {H H' : Hp} {t : Addr} {z : Str} {b : Bool} {i : Int} (h : MadeAt H t z b i) (s : Same H H') : MadeAt H' t z b i := by
  unfold MadeAt at *
  split
  · rename_i hn
    rw [if_pos hn] at h
    split
    · rename_i hb
      rw [if_pos hb] at h
      obtain ⟨v, rs, e1, e2, e3⟩ := h
      exact ⟨v, rs, s _ _ e1, s _ _ e2, e3.same s⟩
    · rename_i hb
      rw [if_neg hb] at h
      exact s _ _ h
  · rename_i hn
    rw [if_neg hn] at h
    exact s _ _ h
theorem inB_iff {i : Int} : inB i = false ↔ (1000000000000000000000000000000 < i ∨ i < -1000000000000000000000000000000) := by
  constructor
  · intro h
    by_cases h1 : -1000000000000000000000000000000 ≤ i ∧ i ≤ 1000000000000000000000000000000
    · rw [inB_of h1] at h
      cases h
    · omega
  · intro h
    exact inB_out (by omega)
def sp__law_refused (K : PySem.W.Frag) : Sp := fun vs H Q _ => ∃ (st scr : Addr) (z : Str) (n k : Int), vs = [.ref st, .str z, .int n, .int k] ∧ DrAt H st scr ∧ isName z = true ∧ Bd n ∧ ∀ (H' : Hp), Bt st H H' → DrAt H' st scr → Q (.bl true) H'
theorem len__law_refused {vs : List V} {H : Hp} {Q : VK} {E : XK} (h : sp__law_refused K vs H Q E) : vs.length = 4 := by
  obtain ⟨_, _, _, _, _, rfl, _⟩ := h
  rfl
theorem ok__law_refused {f : Addr} {fd : FuncData} {f__law_bad_name : Addr} {fd__law_bad_name : FuncData} {f__law_bad_number : Addr} {fd__law_bad_number : FuncData} {f__law_same : Addr} {fd__law_same : FuncData} {f__law_made : Addr} {fd__law_made : FuncData} (F : Fun K "_law_refused" "_law_refused" s__law_refused f fd) (T : Gs K mg t_BOUND t_LETTERS t_LONGEST_NAME a_RESERVED a_BadName a_BadNumber a_Change a_ElseputError a_TooLarge a_UnknownField a_UnknownKey a_UnknownName a_UnknownShape) (c__law_bad_name : Cal P w K mg base CX0 3 "_law_bad_name" f__law_bad_name fd__law_bad_name ["_law_state_here", "_law_name", "_law_kind"] (sp__law_bad_name K)) (c__law_bad_number : Cal P w K mg base CX0 2 "_law_bad_number" f__law_bad_number fd__law_bad_number ["_law_state_here"] (sp__law_bad_number K)) (c__law_same : Cal P w K mg base CX0 6 "_law_same" f__law_same fd__law_same ["_law_actual", "_law_due"] (sp__law_same K)) (c__law_made : Cal P w K mg base CX0 5 "_law_made" f__law_made fd__law_made ["_law_word", "_law_field", "_law_number_here"] (sp__law_made K)) : FnOk P w K mg base CX0 9 f fd ["_law_state_here", "_law_name", "_law_number_here", "_law_kind"] (sp__law_refused K) := by
  refine F.ok sc__law_refused (fun vs H Q E h => len__law_refused h) (fun cdv A outer s H vs Q E hr h => ?_)
  obtain ⟨st, scr, z, n, k, rfl, hd, hz, hn, q⟩ := h
  refine ⟨_, (pss_cons (ps_set (i := 4) sc__law_refused.nd rfl (.inl rfl) (pe_call c__law_bad_name.G (hr.mono (by first | decide | omega)) rfl c__law_bad_name.m c__law_bad_name.kp c__law_bad_name.b .nil pass0 (pa_cons (v_ 0) (pa_cons (v_ 1) (pa_cons (v_ 3) pa_nil))))) (pss_cons (ps_set (i := 5) sc__law_refused.nd rfl (.inl rfl) (pe_call c__law_bad_number.G (hr.mono (by first | decide | omega)) rfl c__law_bad_number.m c__law_bad_number.kp c__law_bad_number.b .nil pass0 (pa_cons (v_ 0) pa_nil))) (pss_cons (ps_for PassesOwn.never rfl (pi_list (pe_lst (pa_cons pe_str (pa_cons pe_str pa_nil)))) (pg_name (i := 6) sc__law_refused.nd rfl (.inl rfl)) (pss_one (ps_for PassesOwn.never rfl (pi_list (pe_lst (pa_cons (v_ 1) (pa_cons (v_ 4) pa_nil)))) (pg_name (i := 7) sc__law_refused.nd rfl (.inl rfl)) (pss_one (ps_for PassesOwn.never rfl (pi_list (pe_lst (pa_cons (v_ 2) (pa_cons (v_ 5) (pa_cons (pe_op op_powM pe_int pe_int) (pa_cons (pe_un un_negM (pe_op op_powM pe_int pe_int)) (pa_cons (pe_op (addK K) (pe_op op_powM pe_int pe_int) pe_int) (pa_cons (pe_op op_subM (pe_un un_negM (pe_op op_powM pe_int pe_int)) pe_int) pa_nil)))))))) (pg_name (i := 8) sc__law_refused.nd rfl (.inl rfl)) (pss_cons (ps_set (i := 9) sc__law_refused.nd rfl (.inl rfl) (pe_tup (pa_cons pe_str (pa_cons (pe_tup (pa_cons (pe_tup (pa_cons (v_ 7) (pa_cons (v_ 6) (pa_cons (v_ 8) pa_nil)))) pa_nil)) pa_nil)))) (Evl.pss_cut (ps_if (PW.pt (pw_or (pt_c op_gtM (v_ 8) (pe_op op_powM pe_int pe_int)) (pw_or1 (pt_c op_ltM (v_ 8) (pe_un un_negM (pe_op op_powM pe_int pe_int)))))) (pss_one (ps_set (i := 9) sc__law_refused.nd rfl (.inl rfl) (pe_tup (pa_cons pe_str (pa_cons (v_ 8) pa_nil))))) pss_nil) (Evl.pss_cut (ps_if (pt_c (eqK K hr.units) (v_ 7) (v_ 4)) (pss_one (ps_set (i := 9) sc__law_refused.nd rfl (.inl rfl) (pe_tup (pa_cons pe_str (pa_cons (v_ 7) pa_nil))))) pss_nil) (pss_one (ps_if (pt_not (pt_t K (pe_call c__law_same.G (hr.mono (by first | decide | omega)) rfl c__law_same.m c__law_same.kp c__law_same.b .nil pass0 (pa_cons (pe_call c__law_made.G (hr.mono (by first | decide | omega)) rfl c__law_made.m c__law_made.kp c__law_made.b .nil pass0 (pa_cons (v_ 6) (pa_cons (v_ 7) (pa_cons (v_ 8) pa_nil)))) (pa_cons (v_ 9) pa_nil))))) (pss_one (ps_ret pe_bl)) pss_nil)))))))))) (pss_one (ps_ret pe_bl))))), ?_⟩
  have e200 : (2 : Nat) ^ 200 = 1606938044258990275541962092341162602522202993782792835301376 := by decide +kernel
  refine ⟨st, scr, z, k, rfl, hd, hz, fun H1 w b1 hd1 hw lw aw => ?_⟩
  refine ⟨st, scr, rfl, hd1, fun H2 bn b2 hd2 bn1 bn2 => ?_⟩
  have b12 := b1.trans b2
  refine ⟨(by show 2 ≤ sizeLine; decide), fun W nW => ?_⟩
  have sW := same_new (o := .lst [.str "add", .str "set"]) nW
  have hW : (upd H2 W (.lst [.str "add", .str "set"])) W = some (.lst ([true, false].map fun b => V.str (deed b))) := upd_same
  have b3 := b12.trans (Bt.same (st := st) sW)
  have hd3 := hd2.new sW
  generalize upd H2 W (.lst [.str "add", .str "set"]) = H3 at hW b3 hd3 ⊢
  clear b1 b2 b12 hd1 hd2 sW nW
  refine ⟨W, rfl, ⟨_, SqL.of hW⟩, ?_⟩
  refine for_list (K := K) (a := W) (xs := [true, false].map fun b => V.str (deed b)) (fun i σ' H' => (∃ (y u v x : Option V), σ' = [some (.ref st), some (.str z), some (.int n), some (.int k), some (.str w), some (.int bn), y, u, v, x]) ∧ Same H3 H') ⟨⟨_, _, _, _, rfl⟩, Same.refl _⟩ (fun i σ' H' _ h => SqL.of (h.2 _ _ hW)) ?_ ?_
  · rintro i v σ' H4 hi ⟨⟨y, u, x, x2, rfl⟩, sm⟩
    rw [List.getElem?_map] at hi
    obtain ⟨b, hb, rfl⟩ := Option.map_eq_some_iff.mp hi
    refine ⟨(by show 2 ≤ sizeLine; decide), fun F nF => ?_⟩
    have sF := sm.trans (same_new (o := .lst [.str z, .str w]) nF)
    have hF : (upd H4 F (.lst [.str z, .str w])) F = some (.lst ([z, w].map V.str)) := upd_same
    generalize upd H4 F (.lst [.str z, .str w]) = H5 at sF hF ⊢
    refine ⟨F, rfl, ⟨_, SqL.of hF⟩, ?_⟩
    refine for_list (K := K) (a := F) (xs := [z, w].map V.str) (fun i σ' H' => (∃ (u v x : Option V), σ' = [some (.ref st), some (.str z), some (.int n), some (.int k), some (.str w), some (.int bn), some (.str (deed b)), u, v, x]) ∧ Same H5 H') ⟨⟨_, _, _, rfl⟩, Same.refl _⟩ (fun i σ' H' _ h => SqL.of (h.2 _ _ hF)) ?_ ?_
    · rintro i v σ' H6 hi ⟨⟨u, x, x2, rfl⟩, s6⟩
      rw [List.getElem?_map] at hi
      obtain ⟨f, hf, rfl⟩ := Option.map_eq_some_iff.mp hi
      have hfm : f = z ∨ f = w := by
        have := List.mem_of_getElem? hf
        simpa using this
      have hfl : f.length ≤ 1000 ∧ Asc f := by
        rcases hfm with rfl | rfl
        · exact ⟨by have := (isName_mem hz).2.2.1; omega, isName_asc hz⟩
        · exact ⟨by omega, aw⟩
      refine ⟨(by unfold CPow; decide), (by unfold CPow; decide), (by unfold CPow; decide), (by unfold CPow; decide), (by show 6 ≤ sizeLine; decide), fun G nG => ?_⟩
      rw [p30] at *
      generalize hH7 : upd H6 G _ = H7
      have s7 : Same H6 H7 := by rw [← hH7]; exact same_new nG
      have hG : H7 G = some (.lst ([n, bn, 1000000000000000000000000000000, -1000000000000000000000000000000, 1000000000000000000000000000000 + 1, -1000000000000000000000000000000 - 1].map V.int)) := by rw [← hH7]; exact upd_same
      have hvs : ∀ v ∈ ([n, bn, 1000000000000000000000000000000, -1000000000000000000000000000000, 1000000000000000000000000000000 + 1, -1000000000000000000000000000000 - 1] : List Int), v.natAbs < 2 ^ 200 := fun v hv => by
        have hn2 := bd_small hn
        rw [e200] at hn2 bn2 ⊢
        simp only [List.mem_cons, List.not_mem_nil, or_false] at hv
        omega
      clear hH7
      generalize ([n, bn, 1000000000000000000000000000000, -1000000000000000000000000000000, 1000000000000000000000000000000 + 1, -1000000000000000000000000000000 - 1] : List Int) = vals at hG hvs
      refine ⟨G, rfl, ⟨_, SqL.of hG⟩, ?_⟩
      refine for_list (K := K) (a := G) (xs := vals.map V.int) (fun i σ' H' => (∃ (v x : Option V), σ' = [some (.ref st), some (.str z), some (.int n), some (.int k), some (.str w), some (.int bn), some (.str (deed b)), some (.str f), v, x]) ∧ Same H7 H') ⟨⟨_, _, rfl⟩, Same.refl _⟩ (fun i σ' H' _ h => SqL.of (h.2 _ _ hG)) ?_ ?_
      · rintro i v σ' H8 hi ⟨⟨x, x2, rfl⟩, s8⟩
        rw [List.getElem?_map] at hi
        obtain ⟨v, hv, rfl⟩ := Option.map_eq_some_iff.mp hi
        have hv2 := hvs v (List.mem_of_getElem? hv)
        refine ⟨(by show 3 ≤ sizeLine; decide), fun t1 n1 => ?_⟩
        refine ⟨(by show 1 ≤ sizeLine; decide), fun t2 n2 => ?_⟩
        refine ⟨(by show 2 ≤ sizeLine; decide), fun t3 n3 => ?_⟩
        have s1 := same_new (o := .tup [.str f, .str (deed b), .int v]) n1
        have s2 := same_new (o := .tup [.ref t1]) n2
        have s3 := same_new (o := .tup [.str "let", .ref t2]) n3
        have h1 := s3 _ _ (s2 _ _ (upd_same (H := H8) (a := t1) (o := .tup [.str f, .str (deed b), .int v])))
        have h2 := s3 _ _ (upd_same (H := upd H8 t1 (.tup [.str f, .str (deed b), .int v])) (a := t2) (o := .tup [.ref t1]))
        have h3 := upd_same (H := upd (upd H8 t1 (.tup [.str f, .str (deed b), .int v])) t2 (.tup [.ref t1])) (a := t3) (o := .tup [.str "let", .ref t2])
        have s9 := (s1.trans s2).trans s3
        generalize upd (upd (upd H8 t1 (.tup [.str f, .str (deed b), .int v])) t2 (.tup [.ref t1])) t3 (.tup [.str "let", .ref t2]) = H9 at h1 h2 h3 s9 ⊢
        have num : inB v = false → ∀ (H' : Hp), Same H9 H' → ∀ t4, H' t4 = none → ∃ t, [some (V.ref st), some (V.str z), some (V.int n), some (V.int k), some (V.str w), some (V.int bn), some (V.str (deed b)), some (V.str f), some (V.int v), some (V.ref t4)] = [some (V.ref st), some (V.str z), some (V.int n), some (V.int k), some (V.str w), some (V.int bn), some (V.str (deed b)), some (V.str f), some (V.int v), some (V.ref t)] ∧ Same H9 (upd H' t4 (.tup [.str "number", .int v])) ∧ Due1 (upd H' t4 (.tup [.str "number", .int v])) t f b v := fun e H' s' t4 n4 => by
          refine ⟨t4, rfl, s'.trans (same_new n4), ?_⟩
          unfold Due1
          rw [e, if_neg (by decide)]
          exact upd_same
        refine ⟨fun σ' H' => ∃ t : Addr, σ' = [some (.ref st), some (.str z), some (.int n), some (.int k), some (.str w), some (.int bn), some (.str (deed b)), some (.str f), some (.int v), some (.ref t)] ∧ Same H9 H' ∧ Due1 H' t f b v, ?_, ?_⟩
        · refine ⟨(by unfold CPow; decide), ?_⟩
          rw [p30]
          refine ite2 (fun e => ?_) (fun e => ?_)
          · have e : 1000000000000000000000000000000 < v := of_decide_eq_true e
            refine ⟨(by show 2 ≤ sizeLine; decide), fun t4 n4 => ?_⟩
            exact num (inB_iff.mpr (.inl e)) _ (Same.refl _) t4 n4
          · have e : ¬ 1000000000000000000000000000000 < v := of_decide_eq_false (Bool.eq_false_iff.mpr e)
            refine ⟨(by unfold CPow; decide), ?_⟩
            rw [p30]
            refine ite2 (fun e2 => ?_) (fun e2 => ?_)
            · have e2 : v < -1000000000000000000000000000000 := of_decide_eq_true e2
              refine ⟨(by show 2 ≤ sizeLine; decide), fun t4 n4 => ?_⟩
              exact num (inB_iff.mpr (.inr e2)) _ (Same.refl _) t4 n4
            · have e2 : ¬ v < -1000000000000000000000000000000 := of_decide_eq_false (Bool.eq_false_iff.mpr e2)
              have hb : inB v = true := inB_of ⟨by omega, by omega⟩
              refine ⟨t3, rfl, Same.refl _, ?_⟩
              unfold Due1
              rw [if_pos hb]
              exact ⟨t2, [t1], h3, h2, h1, trivial⟩
        rintro σ' H10 ⟨t, rfl, s10, hT⟩
        refine ⟨fun σ' H' => ∃ t : Addr, σ' = [some (.ref st), some (.str z), some (.int n), some (.int k), some (.str w), some (.int bn), some (.str (deed b)), some (.str f), some (.int v), some (.ref t)] ∧ Same H10 H' ∧ MadeAt H' t f b v, ?_, ?_⟩
        · refine ite2 (fun e => ?_) (fun e => ?_)
          · have e : f = w := of_decide_eq_true e
            refine ⟨(by show 2 ≤ sizeLine; decide), fun t4 n4 => ?_⟩
            refine ⟨t4, rfl, same_new n4, ?_⟩
            unfold MadeAt
            rw [e, hw, if_neg (by decide)]
            exact upd_same
          · have e : ¬ f = w := of_decide_eq_false (Bool.eq_false_iff.mpr e)
            have hfz : f = z := hfm.resolve_right e
            refine ⟨t, rfl, Same.refl _, ?_⟩
            unfold MadeAt
            rw [hfz, if_pos hz, ← hfz]
            exact hT
        rintro σ' H11 ⟨t, rfl, s11, hM⟩
        refine ⟨b, f, v, rfl, hfl.1, hfl.2, hv2, fun H12 t5 s12 n5 hM5 => ?_⟩
        refine ⟨_, _, rfl, made_same hM5 (due_same hM s12), ?_⟩
        exact ⟨⟨_, _, rfl⟩, (((s8.trans s9).trans s10).trans s11).trans s12⟩
      · rintro σ' H8 ⟨⟨x, x2, rfl⟩, s8⟩
        exact ⟨⟨_, _, _, rfl⟩, (s6.trans s7).trans s8⟩
    · rintro σ' H6 ⟨⟨u, x, x2, rfl⟩, s6⟩
      exact ⟨⟨_, _, _, _, rfl⟩, sF.trans s6⟩
  · rintro σ' H4 ⟨⟨y, u, x, x2, rfl⟩, sm⟩
    exact q H4 (b3.trans (Bt.same sm)) (hd3.new sm)
end
section
variable {P : Program} {w : World} {K : PySem.W.Frag} {mg : Str → Option Value} {base : Heap}
variable {t_BOUND t_LETTERS t_LONGEST_NAME : Tok} {a_RESERVED a_BadName a_BadNumber a_Change a_ElseputError a_TooLarge a_UnknownField a_UnknownKey a_UnknownName a_UnknownShape : Addr}
def sp_Change___len__ (K : PySem.W.Frag) : Sp := fun vs H Q _ => ∃ (a : Addr) (xs : List Rw), vs = [.ref a] ∧ ChAt K H a xs ∧ Q (.int (xs.length : Int)) H
theorem len_Change___len__ {vs : List V} {H : Hp} {Q : VK} {E : XK} (h : sp_Change___len__ K vs H Q E) : vs.length = 1 := by
  obtain ⟨_, _, rfl, _⟩ := h
  rfl
theorem ok_Change___len__ {f : Addr} {fd : FuncData} (F : Fun K "__len__" "Change.__len__" s_Change___len__ f fd) (T : Gs K mg t_BOUND t_LETTERS t_LONGEST_NAME a_RESERVED a_BadName a_BadNumber a_Change a_ElseputError a_TooLarge a_UnknownField a_UnknownKey a_UnknownName a_UnknownShape) : FnOk P w K mg base CX0 1 f fd ["self"] (sp_Change___len__ K) := by
  refine F.ok sc_Change___len__ (fun vs H Q E h => len_Change___len__ h) (fun cdv A outer s H vs Q E hr h => ?_)
  obtain ⟨a, xs, rfl, ⟨C, dx, t, rs, hC, ha, ht, hrs⟩, q⟩ := h
  cases hC.symm.trans T.n_Change
  refine ⟨_, (pss_one (ps_ret (pe_callB (lenK K) (by rfl) T.z_len PySem.boot_len (pa_cons (e_f K (v_ 0)) pa_nil)))), ?_⟩
  refine ⟨a, a_Change, dx, _, _, rfl, ha, T.cl_Change, T.na_Change_assignments, rfl, ?_⟩
  refine .inl ⟨_, .inr (SqT.of ht), ?_⟩
  rw [List.length_map, hrs.len]
  exact q
theorem strs_of : ∀ {xs : List V} {zs : List Str}, (∀ x ∈ xs, x ∈ zs.map V.str) → ∃ ws : List Str, xs = ws.map V.str ∧ ∀ w ∈ ws, w ∈ zs
  | [], _, _ => ⟨[], rfl, fun _ h => nomatch h⟩
  | x :: r, zs, h => by
    obtain ⟨z, hz, rfl⟩ := List.mem_map.mp (h x List.mem_cons_self)
    obtain ⟨ws, rfl, hw⟩ := strs_of (xs := r) (zs := zs) fun y hy => h y (List.mem_cons_of_mem _ hy)
    exact ⟨z :: ws, rfl, fun w hw' => by
      rcases List.mem_cons.mp hw' with rfl | h'
      · exact hz
      · exact hw w h'⟩
theorem nodup_strs {zs : List Str} (h : zs.Nodup) : (zs.map V.str).Nodup := by
  show List.Pairwise (· ≠ ·) _
  rw [List.pairwise_map]
  exact List.Pairwise.imp (fun h e => h (V.str.inj e)) h
theorem nodup_of_strs {zs : List Str} (h : (zs.map V.str).Nodup) : zs.Nodup := by
  have h : List.Pairwise (· ≠ ·) (zs.map V.str) := h
  rw [List.pairwise_map] at h
  exact List.Pairwise.imp (fun h e => h (congrArg V.str e)) h
theorem same_strs {H : Hp} {t u : Addr} {zs : List Str} {n : Nat} (h1 : H t = some (.tup (zs.map V.str))) (h2 : H u = some (.tup (zs.map V.str))) (hl : zs.length ≤ 1000) : SameV H (n + 2) (.ref t) (.ref u) := by
  refine .inr (.inr (.inl ⟨t, u, _, _, rfl, rfl, .inr ⟨h1, h2⟩, rfl, by rw [List.length_map]; exact hl, fun i a b ha hb => ?_⟩))
  rw [ha] at hb
  cases hb
  rw [List.getElem?_map] at ha
  obtain ⟨z, hz, rfl⟩ := Option.map_eq_some_iff.mp ha
  exact .inr (.inl ⟨z, rfl, rfl⟩)
def sp__law_is (K : PySem.W.Frag) : Sp := fun vs H Q _ => ∃ (a p : Addr) (rs : List Addr) (xs : List Rw), vs = [.ref a, .ref p] ∧ ChAt K H a xs ∧ H p = some (.lst (rs.map V.ref)) ∧ RowsL H rs xs ∧ xs.length ≤ 20 ∧ ∀ H', Same H H' → Q (.bl true) H'
theorem len__law_is {vs : List V} {H : Hp} {Q : VK} {E : XK} (h : sp__law_is K vs H Q E) : vs.length = 2 := by
  obtain ⟨_, _, _, _, rfl, _⟩ := h
  rfl
theorem ok__law_is {f : Addr} {fd : FuncData} {f__law_same : Addr} {fd__law_same : FuncData} {f_Change_assigned : Addr} {fd_Change_assigned : FuncData} {p_Change_assigned : Addr} {f_Change___len__ : Addr} {fd_Change___len__ : FuncData} (F : Fun K "_law_is" "_law_is" s__law_is f fd) (T : Gs K mg t_BOUND t_LETTERS t_LONGEST_NAME a_RESERVED a_BadName a_BadNumber a_Change a_ElseputError a_TooLarge a_UnknownField a_UnknownKey a_UnknownName a_UnknownShape) (c__law_same : Cal P w K mg base CX0 6 "_law_same" f__law_same fd__law_same ["_law_actual", "_law_due"] (sp__law_same K)) (c_Change_assigned : CalP P w K mg base CX0 1 a_Change p_Change_assigned "assigned" f_Change_assigned fd_Change_assigned ["self"] (sp_Change_assigned K)) (c_Change___len__ : CalL P w K mg base CX0 1 a_Change f_Change___len__ fd_Change___len__ ["self"] (sp_Change___len__ K)) : FnOk P w K mg base CX0 9 f fd ["_law_made_here", "_law_rows"] (sp__law_is K) := by
  refine F.ok sc__law_is (fun vs H Q E h => len__law_is h) (fun cdv A outer s H vs Q E hr h => ?_)
  obtain ⟨a, p, rs, xs, rfl, hA, hp, hrs, lx, q⟩ := h
  obtain ⟨C, dx, t, rs2, hC, ha, ht, hrs2⟩ := id hA
  cases hC.symm.trans T.n_Change
  refine ⟨_, (pss_cons (ps_if (PW.pt (pw_or (pt_not (pt_t K (pe_call c__law_same.G (hr.mono (by first | decide | omega)) rfl c__law_same.m c__law_same.kp c__law_same.b .nil pass0 (pa_cons (e_f K (v_ 0)) (pa_cons (pe_callTy (tupleK K) (by rfl) T.z_tuple (by decide +kernel) (pa_cons (v_ 1) pa_nil)) pa_nil))))) (pw_or1 (pt_not (pt_t K (pe_call c__law_same.G (hr.mono (by first | decide | omega)) rfl c__law_same.m c__law_same.kp c__law_same.b .nil pass0 (pa_cons (pe_callB (call_lenO c_Change___len__.le c_Change___len__.G (hr.mono (by first | decide | omega)) c_Change___len__.b) (by rfl) T.z_len PySem.boot_len (pa_cons (v_ 0) pa_nil)) (pa_cons (pe_callB (lenK K) (by rfl) T.z_len PySem.boot_len (pa_cons (v_ 1) pa_nil)) pa_nil)))))))) (pss_one (ps_ret pe_bl)) pss_nil) (pss_one (ps_ret (pe_call c__law_same.G (hr.mono (by first | decide | omega)) rfl c__law_same.m c__law_same.kp c__law_same.b .nil pass0 (pa_cons (pe_prop (v_ 0) c_Change_assigned.cl c_Change_assigned.pr c_Change_assigned.G (hr.mono (by first | decide | omega)) c_Change_assigned.b .nil pass0 (by rfl)) (pa_cons (pe_callTy (tupleK K) (by rfl) T.z_tuple (by decide +kernel) (pa_cons (pe_lc (own := [("_law_row", 2)]) (g := gName 2) (by rfl) sc__law_is.nd (pi_list (v_ 1)) (blkOk_by (N := ["_law_made_here", "_law_rows", "_law_row"]) (sc := defScope s__law_is) (by decide +kernel)) (fun _ _ _ _ _ => pg_name (i := 2) sc__law_is.nd rfl (Or.inl rfl)) (fun _ _ _ _ _ => pts_nil) (fun _ _ _ _ _ => (e_x K (v_ 2) pe_int))) pa_nil)) pa_nil)))))), ?_⟩
  refine ⟨a, a_Change, dx, _, _, rfl, ha, T.cl_Change, T.na_Change_assignments, rfl, p, _, rfl, .inl ⟨SqL.of hp, fun v nv => ?_⟩⟩
  have sv := same_new (o := .tup (rs.map V.ref)) nv
  refine ⟨_, _, rfl, same_tup (sv _ _ ht) upd_same (hrs2.same sv) (hrs.same sv) (by omega), ?_⟩
  generalize upd H v (.tup (rs.map V.ref)) = H1 at sv ⊢
  refine ⟨a, dx, _, rfl, sv _ _ ha, a, xs, rfl, hA.same sv, _, rfl, by omega, by omega, ?_⟩
  refine .inl ⟨_, .inl (SqL.of (sv _ _ hp)), ?_⟩
  refine ⟨_, _, rfl, .inl ⟨(xs.length : Int), rfl, by rw [List.length_map, hrs.len]⟩, ?_⟩
  refine ⟨a, dx, _, rfl, sv _ _ ha, a, xs, rfl, hA.same sv, lx, fun H2 t2 s2 ht2 => ?_⟩
  have s02 := sv.trans s2
  refine ⟨p, rfl, ⟨_, SqL.of (s02 _ _ hp)⟩, fun D nD => ?_⟩
  refine lc_it walk_list (fun i H3 => Same H2 H3 ∧ H3 D = some (.lst (((xs.take i).map (·.f)).map V.str))) ⟨same_new nD, upd_same⟩ (fun _ _ _ h => SqL.of (h.1 _ _ (s02 _ _ hp))) ?_ ?_
  · rintro i v H4 H3 hi ⟨s1, hD⟩ ⟨rfl, hv⟩
    rw [List.length_map] at hi
    obtain ⟨r, er⟩ : ∃ r, rs[i]? = some r := ⟨_, List.getElem?_eq_getElem hi⟩
    have hv : (rs.map V.ref)[i]? = some v := by
      first | exact hv | exact hv _ (SqL.of (s1 _ _ (s02 _ _ hp)))
    rw [List.getElem?_map, er] at hv
    cases hv
    obtain ⟨x, ex, hx⟩ := hrs.get er
    refine ⟨rfl, ?_⟩
    refine ⟨_, .inr (SqT.of (s1 _ _ (s02 _ _ hx))), .str x.f, rfl, _, hD, line_lt (by rw [List.length_map, List.length_map, List.length_take]; omega), ?_, ?_⟩
    · intro b o hb
      rw [upd_ne (ne_of_none hb nD)]
      exact s1 _ _ hb
    · rw [upd_same, take_snoc ex, List.map_append, List.map_append]
      rfl
  rintro H3 ⟨s1, hD⟩
  rw [List.length_map, hrs.len, List.take_length] at hD
  refine ⟨D, _, rfl, .inl ⟨SqL.of hD, fun u nu => ?_⟩⟩
  have su := same_new (o := .tup ((xs.map (·.f)).map V.str)) nu
  refine ⟨_, _, rfl, same_strs (su _ _ (s1 _ _ ht2)) upd_same (by rw [List.length_map]; omega), ?_⟩
  exact q _ ((s02.trans s1).trans su)
end
section
variable {P : Program} {w : World} {K : PySem.W.Frag} {mg : Str → Option Value} {base : Heap}
variable {t_BOUND t_LETTERS t_LONGEST_NAME : Tok} {a_RESERVED a_BadName a_BadNumber a_Change a_ElseputError a_TooLarge a_UnknownField a_UnknownKey a_UnknownName a_UnknownShape : Addr}
def spLaw (K : PySem.W.Frag) : Sp := fun vs H Q _ => ∃ (a : Addr) (ns : List Int), vs = [.ref a] ∧ SqL K H a (ns.map V.int) ∧ ns.length ≤ 63 ∧ ∀ H', Q (.bl true) H'
abbrev sp_law := spLaw
theorem len_law {vs : List V} {H : Hp} {Q : VK} {E : XK} (h : sp_law K vs H Q E) : vs.length = 1 := by
  obtain ⟨_, _, rfl, _⟩ := h
  rfl
theorem ok_law {f : Addr} {fd : FuncData} {f__law_state : Addr} {fd__law_state : FuncData} {f__law_names : Addr} {fd__law_names : FuncData} {f__law_assignments : Addr} {fd__law_assignments : FuncData} {f__law_mixed : Addr} {fd__law_mixed : FuncData} {f__law_change : Addr} {fd__law_change : FuncData} {f__law_same : Addr} {fd__law_same : FuncData} {f__law_number : Addr} {fd__law_number : FuncData} {f__law_part : Addr} {fd__law_part : FuncData} {f__law_is : Addr} {fd__law_is : FuncData} {f__law_refused : Addr} {fd__law_refused : FuncData} {f__law_acts : Addr} {fd__law_acts : FuncData} {f_Change_none : Addr} {fd_Change_none : FuncData} {p_Change_none : Addr} (F : Fun K "law" "law" s_law f fd) (T : Gs K mg t_BOUND t_LETTERS t_LONGEST_NAME a_RESERVED a_BadName a_BadNumber a_Change a_ElseputError a_TooLarge a_UnknownField a_UnknownKey a_UnknownName a_UnknownShape) (c__law_state : Cal P w K mg base CX0 1 "_law_state" f__law_state fd__law_state ["_law_script"] (sp__law_state K)) (c__law_names : Cal P w K mg base CX0 2 "_law_names" f__law_names fd__law_names ["_law_state_here", "_law_many"] (sp__law_names K)) (c__law_assignments : Cal P w K mg base CX0 4 "_law_assignments" f__law_assignments fd__law_assignments ["_law_state_here", "_law_fields", "_law_most"] (sp__law_assignments K)) (c__law_mixed : Cal P w K mg base CX0 2 "_law_mixed" f__law_mixed fd__law_mixed ["_law_state_here", "_law_row"] (sp__law_mixed K)) (c__law_change : Cal P w K mg base CX0 5 "_law_change" f__law_change fd__law_change ["_law_rows"] (sp__law_change K)) (c__law_same : Cal P w K mg base CX0 6 "_law_same" f__law_same fd__law_same ["_law_actual", "_law_due"] (sp__law_same K)) (c__law_number : Cal P w K mg base CX0 2 "_law_number" f__law_number fd__law_number ["_law_state_here"] (sp__law_number K)) (c__law_part : Cal P w K mg base CX0 1 "_law_part" f__law_part fd__law_part ["_law_content", "_law_code"] (sp__law_part K)) (c__law_is : Cal P w K mg base CX0 9 "_law_is" f__law_is fd__law_is ["_law_made_here", "_law_rows"] (sp__law_is K)) (c__law_refused : Cal P w K mg base CX0 9 "_law_refused" f__law_refused fd__law_refused ["_law_state_here", "_law_name", "_law_number_here", "_law_kind"] (sp__law_refused K)) (c__law_acts : Cal P w K mg base CX0 9 "_law_acts" f__law_acts fd__law_acts ["_law_made_here", "_law_rows", "_law_content"] (sp__law_acts K)) (c_Change_none : CalS P w K mg base CX0 3 a_Change p_Change_none "none" f_Change_none fd_Change_none [] (sp_Change_none K)) : FnOk P w K mg base CX0 12 f fd ["_law_script"] (sp_law K) := by
  refine F.ok sc_law (fun vs H Q E h => len_law h) (fun cdv A outer s H vs Q E hr h => ?_)
  obtain ⟨a, ns, rfl, hS, hl, q⟩ := h
  refine ⟨_, (pss_cons (ps_set (i := 1) sc_law.nd rfl (.inl rfl) (pe_call c__law_state.G (hr.mono (by first | decide | omega)) rfl c__law_state.m c__law_state.kp c__law_state.b .nil pass0 (pa_cons (v_ 0) pa_nil))) (pss_cons (ps_set (i := 2) sc_law.nd rfl (.inl rfl) (pe_call c__law_names.G (hr.mono (by first | decide | omega)) rfl c__law_names.m c__law_names.kp c__law_names.b .nil pass0 (pa_cons (v_ 1) (pa_cons pe_int pa_nil)))) (pss_cons (ps_set (i := 3) sc_law.nd rfl (.inl rfl) (pe_call c__law_assignments.G (hr.mono (by first | decide | omega)) rfl c__law_assignments.m c__law_assignments.kp c__law_assignments.b .nil pass0 (pa_cons (v_ 1) (pa_cons (pe_call c__law_mixed.G (hr.mono (by first | decide | omega)) rfl c__law_mixed.m c__law_mixed.kp c__law_mixed.b .nil pass0 (pa_cons (v_ 1) (pa_cons (v_ 2) pa_nil))) (pa_cons pe_int pa_nil))))) (pss_cons (ps_set (i := 4) sc_law.nd rfl (.inl rfl) pe_dnewK) (pss_cons (ps_for PassesOwn.never rfl (pi_list (pe_call c__law_mixed.G (hr.mono (by first | decide | omega)) rfl c__law_mixed.m c__law_mixed.kp c__law_mixed.b .nil pass0 (pa_cons (v_ 1) (pa_cons (v_ 2) pa_nil)))) (pg_name (i := 5) sc_law.nd rfl (.inl rfl)) (pss_one (ps_asg (pe_call c__law_number.G (hr.mono (by first | decide | omega)) rfl c__law_number.m c__law_number.kp c__law_number.b .nil pass0 (pa_cons (v_ 1) pa_nil)) (pg_sub (v_ 4) (v_ 5) (set_dict (hu_of hr)))))) (pss_cons (ps_set (i := 6) sc_law.nd rfl (.inl rfl) (pe_call c__law_change.G (hr.mono (by first | decide | omega)) rfl c__law_change.m c__law_change.kp c__law_change.b .nil pass0 (pa_cons (v_ 3) pa_nil))) (pss_cons (ps_set (i := 7) sc_law.nd rfl (.inl rfl) (pe_smeth0 (pe_glob (v := .ref a_Change) rfl T.g_Change rfl) c_Change_none.rd c_Change_none.sm c_Change_none.G (hr.mono (by first | decide | omega)) c_Change_none.b pass0)) (pss_cons (ps_for PassesOwn.never rfl (pi_range1 rfl T.z_range (pa_cons pe_int pa_nil)) (pg_name (i := 8) sc_law.nd rfl (.inl rfl)) (pss_cons (ps_set (i := 10) sc_law.nd rfl (.inl rfl) (pe_call c__law_part.G (hr.mono (by first | decide | omega)) rfl c__law_part.m c__law_part.kp c__law_part.b .nil pass0 (pa_cons (v_ 4) (pa_cons (v_ 8) pa_nil)))) (pss_one (ps_if (PW.pt (pw_or (pt_not (pt_t K (pe_call c__law_acts.G (hr.mono (by first | decide | omega)) rfl c__law_acts.m c__law_acts.kp c__law_acts.b .nil pass0 (pa_cons (v_ 6) (pa_cons (v_ 3) (pa_cons (v_ 10) pa_nil)))))) (pw_or1 (pt_not (pt_t K (pe_call c__law_acts.G (hr.mono (by first | decide | omega)) rfl c__law_acts.m c__law_acts.kp c__law_acts.b .nil pass0 (pa_cons (v_ 7) (pa_cons (pe_lst pa_nil) (pa_cons (v_ 10) pa_nil))))))))) (pss_one (ps_ret pe_bl)) pss_nil)))) (pss_cons (ps_if (PW.pt (pw_or (pt_not (pt_t K (pe_call c__law_is.G (hr.mono (by first | decide | omega)) rfl c__law_is.m c__law_is.kp c__law_is.b .nil pass0 (pa_cons (v_ 6) (pa_cons (v_ 3) pa_nil))))) (pw_or1 (pt_not (pt_t K (pe_call c__law_is.G (hr.mono (by first | decide | omega)) rfl c__law_is.m c__law_is.kp c__law_is.b .nil pass0 (pa_cons (v_ 7) (pa_cons (pe_lst pa_nil) pa_nil)))))))) (pss_one (ps_ret pe_bl)) pss_nil) (pss_cons (ps_for PassesOwn.never rfl (pi_range1 rfl T.z_range (pa_cons pe_int pa_nil)) (pg_name (i := 9) sc_law.nd rfl (.inl rfl)) (pss_one (ps_if (pt_not (pt_t K (pe_call c__law_refused.G (hr.mono (by first | decide | omega)) rfl c__law_refused.m c__law_refused.kp c__law_refused.b .nil pass0 (pa_cons (v_ 1) (pa_cons (e_x K (v_ 2) pe_int) (pa_cons (pe_call c__law_number.G (hr.mono (by first | decide | omega)) rfl c__law_number.m c__law_number.kp c__law_number.b .nil pass0 (pa_cons (v_ 1) pa_nil)) (pa_cons (v_ 9) pa_nil))))))) (pss_one (ps_ret pe_bl)) pss_nil))) (pss_one (ps_ret (pe_call c__law_same.G (hr.mono (by first | decide | omega)) rfl c__law_same.m c__law_same.kp c__law_same.b .nil pass0 (pa_cons (e_cv K (pe_glob (v := .ref a_Change) rfl T.g_Change rfl)) (pa_cons pe_int pa_nil))))))))))))))), ?_⟩
  refine ⟨a, ns, rfl, hS, hl, fun H1 st scr sm fs fc hd => ?_⟩
  refine ⟨st, scr, 5, rfl, hd, by decide, fun H2 pn zs b2 hd2 npn hpn hzl hzn hnd => ?_⟩
  have pns : pn ≠ st := hd.ne_new npn
  clear b2 hd sm
  have hzl1 : (zs.map V.str).length ≤ 1000 := by rw [List.length_map]; omega
  refine ⟨st, scr, pn, _, rfl, hd2, hpn, pns, hzl1, fun H3 r ys b3 hd3 nr hr hperm => ?_⟩
  obtain ⟨ws, rfl, hws⟩ := strs_of (xs := ys) (zs := zs) fun x hx => hperm.mem_iff.mp hx
  have hwl : ws.length = 5 := by
    have := hperm.length_eq
    rw [List.length_map, List.length_map] at this
    omega
  have hwnd : ws.Nodup := nodup_of_strs (hperm.nodup_iff.mpr (nodup_strs hnd))
  refine ⟨st, scr, r, ws, rfl, hd3, hr, hd2.ne_new nr, hwl, fun z hz => hzn z (hws z hz), hwnd, fun H4 L rs xs b4 hd4 nL hL hrs gx mx => ?_⟩
  have Ls : L ≠ st := hd3.ne_new nL
  have hpn4 := b4 _ _ pns (b3 _ _ pns hpn)
  clear b4 b3 nL hd3 hd2 hr hperm hpn nr
  refine fun d nd => ?_
  have dst : d ≠ st := hd4.ne_new nd
  have dsc : d ≠ scr := hd4.ne_scr nd
  have sd := same_new (o := .dK []) nd
  refine ⟨st, scr, pn, _, rfl, hd4.new sd, sd _ _ hpn4, pns, hzl1, fun H6 r2 ys2 b6 hd6 nr2 hr2 hperm2 => ?_⟩
  obtain ⟨us, rfl, hus⟩ := strs_of (xs := ys2) (zs := zs) fun x hx => hperm2.mem_iff.mp hx
  have hul : us.length = 5 := by
    have := hperm2.length_eq
    rw [List.length_map, List.length_map] at this
    omega
  have r2s : r2 ≠ st := (hd4.new sd).ne_new nr2
  have r2d : r2 ≠ d := (ne_of_none (upd_same (H := H4) (a := d) (o := .dK [])) nr2).symm
  have hd6d := b6 _ _ dst (upd_same (H := H4) (a := d) (o := .dK []))
  obtain ⟨ls4, hs4⟩ := (hd4.new sd).lst
  have hrs6 : RowsL H6 rs xs := (hrs.same sd).keep fun c z hc => b6 _ _ (ne_of hc hs4 (by intro e; cases e)) hc
  have hL6 := b6 _ _ Ls (sd _ _ hL)
  have hpn6 := b6 _ _ pns (sd _ _ hpn4)
  have dL : L ≠ d := ne_of_none hL nd
  have dpn : pn ≠ d := ne_of_none hpn4 nd
  clear b6 hs4 hL hrs hpn4 hperm2 nr2 hd4 sd nd
  refine ⟨r2, rfl, ⟨_, SqL.of hr2⟩, ?_⟩
  refine for_list (K := K) (a := r2) (xs := us.map V.str) (fun i σ' H' => ∃ (y : Option V) (c : Ct), σ' = [some (.ref a), some (.ref st), some (.ref pn), some (.ref L), some (.ref d), y, none, none, none, none, none] ∧ DrAt H' st scr ∧ H' pn = some (.lst (zs.map V.str)) ∧ H' r2 = some (.lst (us.map V.str)) ∧ H' L = some (.lst (rs.map V.ref)) ∧ RowsL H' rs xs ∧ H' d = some (.dK c) ∧ Ints c ∧ c.length ≤ i) ⟨_, [], rfl, hd6, hpn6, hr2, hL6, hrs6, hd6d, (fun k v h => nomatch h), Nat.le_refl _⟩ (fun i σ' H' _ ⟨_, _, _, _, _, h, _⟩ => SqL.of h) ?_ ?_
  · rintro i v σ' H' hi ⟨y, c, rfl, hdd, hp, hr, hL, hrs, hc, hI, hcl⟩
    have hil := (List.getElem?_eq_some_iff.mp hi).1
    rw [List.length_map] at hil
    rw [List.getElem?_map] at hi
    obtain ⟨z, hz, rfl⟩ := Option.map_eq_some_iff.mp hi
    refine ⟨st, scr, rfl, hdd, fun l m hm hd' => ?_⟩
    have hc' : upd H' st (.lst l) d = some (.dK c) := by rw [upd_ne dst]; exact hc
    obtain ⟨ls, hs⟩ := hdd.lst
    refine ⟨d, _, rfl, DPut.k (k := kS z) hc' (line_lt (by omega)), ?_⟩
    refine ⟨_, _, rfl, hd'.at dst dsc, by rw [upd_ne dpn, upd_ne pns]; exact hp, by rw [upd_ne r2d, upd_ne r2s]; exact hr, by rw [upd_ne dL, upd_ne Ls]; exact hL, hrs.keep fun b o hb => ?_, upd_same, hI.put _ _, Nat.le_trans (length_putK _ _ _) (by omega)⟩
    rw [upd_ne (ne_of hb hc (by intro e; cases e)), upd_ne (ne_of hb hs (by intro e; cases e))]
    exact hb
  rintro σ' H7 ⟨y, c, rfl, hd7, hpn7, _, hL7, hrs7, hc7, hI, hcl⟩
  rw [List.length_map] at hcl
  clear hd6 hpn6 hL6 hrs6 hd6d hr2
  refine ⟨L, rs, xs, rfl, hL7, hrs7, gx, fun H8 m s8 hm => ?_⟩
  refine ⟨rfl, rfl, fun H9 e s9 ne he => ?_⟩
  have s79 := s8.trans s9
  have hm9 := hm.same s9
  have hd9 := hd7.new s79
  have hpn9 := s79 _ _ hpn7
  have hL9 := s79 _ _ hL7
  have hrs9 := hrs7.same s79
  have hc9 := s79 _ _ hc7
  clear s8 s9 s79 hm hd7 hpn7 hL7 hrs7 hc7 ne
  have g0 : Good [] := ⟨(fun _ h => nomatch h), List.Pairwise.nil, by decide⟩
  refine ⟨32, rfl, by decide, by decide, ?_⟩
  refine for_range (lo := 0) (n := 32) (fun i σ' H' => ∃ (z w : Option V), σ' = [some (.ref a), some (.ref st), some (.ref pn), some (.ref L), some (.ref d), y, some (.ref m), some (.ref e), z, none, w] ∧ Same H9 H') ⟨_, _, rfl, Same.refl _⟩ ?_ ?_
  · rintro i σ' H' hi ⟨z, w, rfl, sm⟩
    refine ⟨d, _, c, rfl, sm _ _ hc9, hI, by omega, fun H11 r c' s11 nr hr hI' hl' => ?_⟩
    have s1 := sm.trans s11
    refine ⟨m, L, r, rs, xs, c', rfl, hm9.same s1, s1 _ _ hL9, hrs9.same s1, gx, hr, hI', by omega, fun H12 s12 => ?_⟩
    have s2 := s1.trans s12
    refine ⟨Nat.zero_le _, fun e0 ne0 => ?_⟩
    have s3 := same_new (o := .lst []) ne0
    refine ⟨e, e0, r, [], [], c', rfl, he.same (s2.trans s3), upd_same, trivial, g0, s3 _ _ (s12 _ _ hr), hI', by omega, fun H13 s13 => ?_⟩
    exact ⟨_, _, rfl, (s2.trans s3).trans s13⟩
  rintro σ' H10 ⟨z, w, rfl, s10⟩
  refine ⟨m, L, rs, xs, rfl, hm9.same s10, s10 _ _ hL9, hrs9.same s10, by have := gx.2.2; omega, fun H11 s11 => ?_⟩
  refine ⟨Nat.zero_le _, fun e0 ne0 => ?_⟩
  have s3 := same_new (o := .lst []) ne0
  have s4 := (s10.trans s11).trans s3
  refine ⟨e, e0, [], [], rfl, he.same s4, upd_same, trivial, by decide, fun H13 s13 => ?_⟩
  have s5 := s4.trans s13
  have hd13 := hd9.new s5
  have hpn13 := s5 _ _ hpn9
  clear s3 s4 s10 s11 s13
  obtain ⟨z0, ez0⟩ : ∃ z, zs[0]? = some z := ⟨_, List.getElem?_eq_getElem (by omega)⟩
  have hz0 := (hzn z0 (List.mem_of_getElem? ez0)).1
  refine ⟨4, rfl, by decide, by decide, ?_⟩
  refine for_range (lo := 0) (n := 4) (fun i σ' H' => ∃ (u v w : Option V), σ' = [some (.ref a), some (.ref st), some (.ref pn), some (.ref L), some (.ref d), y, some (.ref m), some (.ref e), u, v, w] ∧ DrAt H' st scr ∧ H' pn = some (.lst (zs.map V.str))) ⟨_, _, _, rfl, hd13, hpn13⟩ ?_ ?_
  · rintro i σ' H' hi ⟨u, v, w, rfl, hdd, hp⟩
    refine ⟨_, .inl (SqL.of hp), .str z0, atI_nat (j := 0) (by rw [List.getElem?_map, ez0]; rfl), ?_⟩
    refine ⟨st, scr, rfl, hdd, fun l n hn hd' => ?_⟩
    refine ⟨st, scr, z0, n, _, rfl, hd', hz0, hn, fun H'' bb hd'' => ?_⟩
    exact ⟨_, _, _, rfl, hd'', bb _ _ pns (by rw [upd_ne pns]; exact hp)⟩
  rintro σ' H14 ⟨u, v, w, rfl, hdd, hp⟩
  obtain ⟨mu, hmu⟩ := T.cv_Change_MOST
  refine ⟨a_Change, _, _, _, rfl, T.rd_Change, hmu, ?_⟩
  exact ⟨_, _, rfl, .inl ⟨3, rfl, rfl⟩, q _⟩
end
theorem all_mk {l : PySem.W.OpenLaw} {w : World} {K : PySem.W.Frag} {h : Heap} {mg : Str → Option Value} {fa : Addr} {t_BOUND t_LETTERS t_LONGEST_NAME : Tok} {a_RESERVED a_BadName a_BadNumber a_Change a_ElseputError a_TooLarge a_UnknownField a_UnknownKey a_UnknownName a_UnknownShape : Addr} {u_Change_MOST : Tok} {f_is_name f_in_bound f_check_name f_check_number f_followed f__law_state f__law_draw f__law_pick f__law_mixed f__law_number f__law_constant f__law_names f__law_is_int f__law_same f__law_assignments f__law_changed f_Change___init__ f_Change_none f_Change_adding f_Change_setting f_Change_assigned f_Change___rshift__ f__law_change f__law_reserved f__law_bad_name f__law_bad_number f__law_part f_Change___call__ f__law_ask f__law_acts f__law_made f__law_refused f_Change___len__ f__law_is f_law : Addr} {od_is_name an_is_name : Option Addr} {sl_is_name : Array (Option Value)} {oc_is_name kV_is_name dc_is_name pm_is_name cd_is_name ct_is_name : Value} {od_in_bound an_in_bound : Option Addr} {sl_in_bound : Array (Option Value)} {oc_in_bound kV_in_bound dc_in_bound pm_in_bound cd_in_bound ct_in_bound : Value} {od_check_name an_check_name : Option Addr} {sl_check_name : Array (Option Value)} {oc_check_name kV_check_name dc_check_name pm_check_name cd_check_name ct_check_name : Value} {od_check_number an_check_number : Option Addr} {sl_check_number : Array (Option Value)} {oc_check_number kV_check_number dc_check_number pm_check_number cd_check_number ct_check_number : Value} {od_followed an_followed : Option Addr} {sl_followed : Array (Option Value)} {oc_followed kV_followed dc_followed pm_followed cd_followed ct_followed : Value} {od__law_state an__law_state : Option Addr} {sl__law_state : Array (Option Value)} {oc__law_state kV__law_state dc__law_state pm__law_state cd__law_state ct__law_state : Value} {od__law_draw an__law_draw : Option Addr} {sl__law_draw : Array (Option Value)} {oc__law_draw kV__law_draw dc__law_draw pm__law_draw cd__law_draw ct__law_draw : Value} {od__law_pick an__law_pick : Option Addr} {sl__law_pick : Array (Option Value)} {oc__law_pick kV__law_pick dc__law_pick pm__law_pick cd__law_pick ct__law_pick : Value} {od__law_mixed an__law_mixed : Option Addr} {sl__law_mixed : Array (Option Value)} {oc__law_mixed kV__law_mixed dc__law_mixed pm__law_mixed cd__law_mixed ct__law_mixed : Value} {od__law_number an__law_number : Option Addr} {sl__law_number : Array (Option Value)} {oc__law_number kV__law_number dc__law_number pm__law_number cd__law_number ct__law_number : Value} {od__law_constant an__law_constant : Option Addr} {sl__law_constant : Array (Option Value)} {oc__law_constant kV__law_constant dc__law_constant pm__law_constant cd__law_constant ct__law_constant : Value} {od__law_names an__law_names : Option Addr} {sl__law_names : Array (Option Value)} {oc__law_names kV__law_names dc__law_names pm__law_names cd__law_names ct__law_names : Value} {od__law_is_int an__law_is_int : Option Addr} {sl__law_is_int : Array (Option Value)} {oc__law_is_int kV__law_is_int dc__law_is_int pm__law_is_int cd__law_is_int ct__law_is_int : Value} {od__law_same an__law_same : Option Addr} {sl__law_same : Array (Option Value)} {oc__law_same kV__law_same dc__law_same pm__law_same cd__law_same ct__law_same : Value} {od__law_assignments an__law_assignments : Option Addr} {sl__law_assignments : Array (Option Value)} {oc__law_assignments kV__law_assignments dc__law_assignments pm__law_assignments cd__law_assignments ct__law_assignments : Value} {od__law_changed an__law_changed : Option Addr} {sl__law_changed : Array (Option Value)} {oc__law_changed kV__law_changed dc__law_changed pm__law_changed cd__law_changed ct__law_changed : Value} {od_Change___init__ an_Change___init__ : Option Addr} {sl_Change___init__ : Array (Option Value)} {oc_Change___init__ kV_Change___init__ dc_Change___init__ pm_Change___init__ cd_Change___init__ ct_Change___init__ : Value} {p_Change_none : Addr} {r_Change_none : List Value} {od_Change_none an_Change_none : Option Addr} {sl_Change_none : Array (Option Value)} {oc_Change_none kV_Change_none dc_Change_none pm_Change_none cd_Change_none ct_Change_none : Value} {p_Change_adding : Addr} {r_Change_adding : List Value} {od_Change_adding an_Change_adding : Option Addr} {sl_Change_adding : Array (Option Value)} {oc_Change_adding kV_Change_adding dc_Change_adding pm_Change_adding cd_Change_adding ct_Change_adding : Value} {p_Change_setting : Addr} {r_Change_setting : List Value} {od_Change_setting an_Change_setting : Option Addr} {sl_Change_setting : Array (Option Value)} {oc_Change_setting kV_Change_setting dc_Change_setting pm_Change_setting cd_Change_setting ct_Change_setting : Value} {p_Change_assigned : Addr} {r_Change_assigned : List Value} {od_Change_assigned an_Change_assigned : Option Addr} {sl_Change_assigned : Array (Option Value)} {oc_Change_assigned kV_Change_assigned dc_Change_assigned pm_Change_assigned cd_Change_assigned ct_Change_assigned : Value} {od_Change___rshift__ an_Change___rshift__ : Option Addr} {sl_Change___rshift__ : Array (Option Value)} {oc_Change___rshift__ kV_Change___rshift__ dc_Change___rshift__ pm_Change___rshift__ cd_Change___rshift__ ct_Change___rshift__ : Value} {od__law_change an__law_change : Option Addr} {sl__law_change : Array (Option Value)} {oc__law_change kV__law_change dc__law_change pm__law_change cd__law_change ct__law_change : Value} {od__law_reserved an__law_reserved : Option Addr} {sl__law_reserved : Array (Option Value)} {oc__law_reserved kV__law_reserved dc__law_reserved pm__law_reserved cd__law_reserved ct__law_reserved : Value} {od__law_bad_name an__law_bad_name : Option Addr} {sl__law_bad_name : Array (Option Value)} {oc__law_bad_name kV__law_bad_name dc__law_bad_name pm__law_bad_name cd__law_bad_name ct__law_bad_name : Value} {od__law_bad_number an__law_bad_number : Option Addr} {sl__law_bad_number : Array (Option Value)} {oc__law_bad_number kV__law_bad_number dc__law_bad_number pm__law_bad_number cd__law_bad_number ct__law_bad_number : Value} {od__law_part an__law_part : Option Addr} {sl__law_part : Array (Option Value)} {oc__law_part kV__law_part dc__law_part pm__law_part cd__law_part ct__law_part : Value} {od_Change___call__ an_Change___call__ : Option Addr} {sl_Change___call__ : Array (Option Value)} {oc_Change___call__ kV_Change___call__ dc_Change___call__ pm_Change___call__ cd_Change___call__ ct_Change___call__ : Value} {od__law_ask an__law_ask : Option Addr} {sl__law_ask : Array (Option Value)} {oc__law_ask kV__law_ask dc__law_ask pm__law_ask cd__law_ask ct__law_ask : Value} {od__law_acts an__law_acts : Option Addr} {sl__law_acts : Array (Option Value)} {oc__law_acts kV__law_acts dc__law_acts pm__law_acts cd__law_acts ct__law_acts : Value} {od__law_made an__law_made : Option Addr} {sl__law_made : Array (Option Value)} {oc__law_made kV__law_made dc__law_made pm__law_made cd__law_made ct__law_made : Value} {od__law_refused an__law_refused : Option Addr} {sl__law_refused : Array (Option Value)} {oc__law_refused kV__law_refused dc__law_refused pm__law_refused cd__law_refused ct__law_refused : Value} {od_Change___len__ an_Change___len__ : Option Addr} {sl_Change___len__ : Array (Option Value)} {oc_Change___len__ kV_Change___len__ dc_Change___len__ pm_Change___len__ cd_Change___len__ ct_Change___len__ : Value} {od__law_is an__law_is : Option Addr} {sl__law_is : Array (Option Value)} {oc__law_is kV__law_is dc__law_is pm__law_is cd__law_is ct__law_is : Value} {od_law an_law : Option Addr} {sl_law : Array (Option Value)} {oc_law kV_law dc_law pm_law cd_law ct_law : Value} {od_RESERVED : Option Addr} {its_RESERVED : Array Value} {n_RESERVED : Nat} {sl_RESERVED : Array (Option Value)} {f_BadName N_BadName cc_BadName cda_BadName : Addr} {nm_BadName q_BadName : Str} {bs_BadName bm_BadName : List Value} {sn_BadName : List Str} {sub_BadName : List Value} {ab_BadName : Bool} {col_BadName : Option Bool} {dd_BadName : Option Addr} {e0_BadName e1_BadName e2_BadName e3_BadName e5_BadName : Option Value} {oc_BadName doc_BadName pm_BadName ct_BadName ccl_BadName cl_BadName : Value} {od_BadName cdd_BadName cld_BadName : Option Addr} {osl_BadName ccs_BadName csl_BadName : Array (Option Value)} {vs_BadName : Array Value} {file_BadName : Str} {tf_BadName : Tok} {cdD_BadName : ClassData} {f_BadNumber N_BadNumber cc_BadNumber cda_BadNumber : Addr} {nm_BadNumber q_BadNumber : Str} {bs_BadNumber bm_BadNumber : List Value} {sn_BadNumber : List Str} {sub_BadNumber : List Value} {ab_BadNumber : Bool} {col_BadNumber : Option Bool} {dd_BadNumber : Option Addr} {e0_BadNumber e1_BadNumber e2_BadNumber e3_BadNumber e5_BadNumber : Option Value} {oc_BadNumber doc_BadNumber pm_BadNumber ct_BadNumber ccl_BadNumber cl_BadNumber : Value} {od_BadNumber cdd_BadNumber cld_BadNumber : Option Addr} {osl_BadNumber ccs_BadNumber csl_BadNumber : Array (Option Value)} {vs_BadNumber : Array Value} {file_BadNumber : Str} {tf_BadNumber : Tok} {cdD_BadNumber : ClassData} {f_TooLarge N_TooLarge cc_TooLarge cda_TooLarge : Addr} {nm_TooLarge q_TooLarge : Str} {bs_TooLarge bm_TooLarge : List Value} {sn_TooLarge : List Str} {sub_TooLarge : List Value} {ab_TooLarge : Bool} {col_TooLarge : Option Bool} {dd_TooLarge : Option Addr} {e0_TooLarge e1_TooLarge e2_TooLarge e3_TooLarge e5_TooLarge : Option Value} {oc_TooLarge doc_TooLarge pm_TooLarge ct_TooLarge ccl_TooLarge cl_TooLarge : Value} {od_TooLarge cdd_TooLarge cld_TooLarge : Option Addr} {osl_TooLarge ccs_TooLarge csl_TooLarge : Array (Option Value)} {vs_TooLarge : Array Value} {file_TooLarge : Str} {tf_TooLarge : Tok} {cdD_TooLarge : ClassData} {f_UnknownName N_UnknownName cc_UnknownName cda_UnknownName : Addr} {nm_UnknownName q_UnknownName : Str} {bs_UnknownName bm_UnknownName : List Value} {sn_UnknownName : List Str} {sub_UnknownName : List Value} {ab_UnknownName : Bool} {col_UnknownName : Option Bool} {dd_UnknownName : Option Addr} {e0_UnknownName e1_UnknownName e2_UnknownName e3_UnknownName e5_UnknownName : Option Value} {oc_UnknownName doc_UnknownName pm_UnknownName ct_UnknownName ccl_UnknownName cl_UnknownName : Value} {od_UnknownName cdd_UnknownName cld_UnknownName : Option Addr} {osl_UnknownName ccs_UnknownName csl_UnknownName : Array (Option Value)} {vs_UnknownName : Array Value} {file_UnknownName : Str} {tf_UnknownName : Tok} {cdD_UnknownName : ClassData} {f_UnknownField N_UnknownField cc_UnknownField cda_UnknownField : Addr} {nm_UnknownField q_UnknownField : Str} {bs_UnknownField bm_UnknownField : List Value} {sn_UnknownField : List Str} {sub_UnknownField : List Value} {ab_UnknownField : Bool} {col_UnknownField : Option Bool} {dd_UnknownField : Option Addr} {e0_UnknownField e1_UnknownField e2_UnknownField e3_UnknownField e5_UnknownField : Option Value} {oc_UnknownField doc_UnknownField pm_UnknownField ct_UnknownField ccl_UnknownField cl_UnknownField : Value} {od_UnknownField cdd_UnknownField cld_UnknownField : Option Addr} {osl_UnknownField ccs_UnknownField csl_UnknownField : Array (Option Value)} {vs_UnknownField : Array Value} {file_UnknownField : Str} {tf_UnknownField : Tok} {cdD_UnknownField : ClassData} {D_UnknownField : Addr} (X : K.In h) (G : h.Ns mainGlobals mg) (hfa : mg "law" = some (.ref fa))
    (g_Change : PySem.W.nsIn K mainGlobals "Change" = some (some (.ref a_Change)))
    (pg_Change : PySem.W.plainGet K a_Change Str.empty = true)
    (hx_Change : PySem.W.hasDictIn K a_Change = true)
    (po_Change : PySem.W.plainOver K a_Change = true)
    (st_Change : PySem.W.findIn K (.ref a_Change) "__setattr__" = some (some (.builtin "object.__setattr__")))
    (rr_Change : PySem.W.readsIn K a_Change (.type "type") = true)
    (rg_Change : PySem.W.specialIn K (.ref a_Change) "__getattribute__" = some (some (.builtin "type.__getattribute__")))
    (mi_Change : PySem.W.makesIn K a_Change = true)
    (ko_Change : PySem.W.keepIn K (.ref a_Change) = true)
    (sf_Change : PySem.W.selfFirst K a_Change = true)
    (na_Change_assignments : PySem.W.findIn K (.ref a_Change) "assignments" = some none)
    (cv_Change_MOST : PySem.W.findCls K (.ref a_Change) (.type "type") "MOST" = some (.val (.int 3 u_Change_MOST)))
    (a_is_name : PySem.W.nsIn K mainGlobals "is_name" = some (some (.ref f_is_name)))
    (l_is_name : K.lookup f_is_name = some ⟨oc_is_name, od_is_name, .func (PySem.W.fnOf "is_name" "is_name" (defArgs s_is_name) (defBody s_is_name) (defScope s_is_name) .none kV_is_name dc_is_name pm_is_name an_is_name cd_is_name ct_is_name), sl_is_name⟩)
    (c_is_name : PySem.W.codeIn K cd_is_name "is_name" = true)
    (k_is_name : PySem.W.keepIn K (.ref f_is_name) = true)
    (a_in_bound : PySem.W.nsIn K mainGlobals "in_bound" = some (some (.ref f_in_bound)))
    (l_in_bound : K.lookup f_in_bound = some ⟨oc_in_bound, od_in_bound, .func (PySem.W.fnOf "in_bound" "in_bound" (defArgs s_in_bound) (defBody s_in_bound) (defScope s_in_bound) .none kV_in_bound dc_in_bound pm_in_bound an_in_bound cd_in_bound ct_in_bound), sl_in_bound⟩)
    (c_in_bound : PySem.W.codeIn K cd_in_bound "in_bound" = true)
    (k_in_bound : PySem.W.keepIn K (.ref f_in_bound) = true)
    (a_check_name : PySem.W.nsIn K mainGlobals "check_name" = some (some (.ref f_check_name)))
    (l_check_name : K.lookup f_check_name = some ⟨oc_check_name, od_check_name, .func (PySem.W.fnOf "check_name" "check_name" (defArgs s_check_name) (defBody s_check_name) (defScope s_check_name) .none kV_check_name dc_check_name pm_check_name an_check_name cd_check_name ct_check_name), sl_check_name⟩)
    (c_check_name : PySem.W.codeIn K cd_check_name "check_name" = true)
    (k_check_name : PySem.W.keepIn K (.ref f_check_name) = true)
    (a_check_number : PySem.W.nsIn K mainGlobals "check_number" = some (some (.ref f_check_number)))
    (l_check_number : K.lookup f_check_number = some ⟨oc_check_number, od_check_number, .func (PySem.W.fnOf "check_number" "check_number" (defArgs s_check_number) (defBody s_check_number) (defScope s_check_number) .none kV_check_number dc_check_number pm_check_number an_check_number cd_check_number ct_check_number), sl_check_number⟩)
    (c_check_number : PySem.W.codeIn K cd_check_number "check_number" = true)
    (k_check_number : PySem.W.keepIn K (.ref f_check_number) = true)
    (a_followed : PySem.W.nsIn K mainGlobals "followed" = some (some (.ref f_followed)))
    (l_followed : K.lookup f_followed = some ⟨oc_followed, od_followed, .func (PySem.W.fnOf "followed" "followed" (defArgs s_followed) (defBody s_followed) (defScope s_followed) .none kV_followed dc_followed pm_followed an_followed cd_followed ct_followed), sl_followed⟩)
    (c_followed : PySem.W.codeIn K cd_followed "followed" = true)
    (k_followed : PySem.W.keepIn K (.ref f_followed) = true)
    (a__law_state : PySem.W.nsIn K mainGlobals "_law_state" = some (some (.ref f__law_state)))
    (l__law_state : K.lookup f__law_state = some ⟨oc__law_state, od__law_state, .func (PySem.W.fnOf "_law_state" "_law_state" (defArgs s__law_state) (defBody s__law_state) (defScope s__law_state) .none kV__law_state dc__law_state pm__law_state an__law_state cd__law_state ct__law_state), sl__law_state⟩)
    (c__law_state : PySem.W.codeIn K cd__law_state "_law_state" = true)
    (k__law_state : PySem.W.keepIn K (.ref f__law_state) = true)
    (a__law_draw : PySem.W.nsIn K mainGlobals "_law_draw" = some (some (.ref f__law_draw)))
    (l__law_draw : K.lookup f__law_draw = some ⟨oc__law_draw, od__law_draw, .func (PySem.W.fnOf "_law_draw" "_law_draw" (defArgs s__law_draw) (defBody s__law_draw) (defScope s__law_draw) .none kV__law_draw dc__law_draw pm__law_draw an__law_draw cd__law_draw ct__law_draw), sl__law_draw⟩)
    (c__law_draw : PySem.W.codeIn K cd__law_draw "_law_draw" = true)
    (k__law_draw : PySem.W.keepIn K (.ref f__law_draw) = true)
    (a__law_pick : PySem.W.nsIn K mainGlobals "_law_pick" = some (some (.ref f__law_pick)))
    (l__law_pick : K.lookup f__law_pick = some ⟨oc__law_pick, od__law_pick, .func (PySem.W.fnOf "_law_pick" "_law_pick" (defArgs s__law_pick) (defBody s__law_pick) (defScope s__law_pick) .none kV__law_pick dc__law_pick pm__law_pick an__law_pick cd__law_pick ct__law_pick), sl__law_pick⟩)
    (c__law_pick : PySem.W.codeIn K cd__law_pick "_law_pick" = true)
    (k__law_pick : PySem.W.keepIn K (.ref f__law_pick) = true)
    (a__law_mixed : PySem.W.nsIn K mainGlobals "_law_mixed" = some (some (.ref f__law_mixed)))
    (l__law_mixed : K.lookup f__law_mixed = some ⟨oc__law_mixed, od__law_mixed, .func (PySem.W.fnOf "_law_mixed" "_law_mixed" (defArgs s__law_mixed) (defBody s__law_mixed) (defScope s__law_mixed) .none kV__law_mixed dc__law_mixed pm__law_mixed an__law_mixed cd__law_mixed ct__law_mixed), sl__law_mixed⟩)
    (c__law_mixed : PySem.W.codeIn K cd__law_mixed "_law_mixed" = true)
    (k__law_mixed : PySem.W.keepIn K (.ref f__law_mixed) = true)
    (a__law_number : PySem.W.nsIn K mainGlobals "_law_number" = some (some (.ref f__law_number)))
    (l__law_number : K.lookup f__law_number = some ⟨oc__law_number, od__law_number, .func (PySem.W.fnOf "_law_number" "_law_number" (defArgs s__law_number) (defBody s__law_number) (defScope s__law_number) .none kV__law_number dc__law_number pm__law_number an__law_number cd__law_number ct__law_number), sl__law_number⟩)
    (c__law_number : PySem.W.codeIn K cd__law_number "_law_number" = true)
    (k__law_number : PySem.W.keepIn K (.ref f__law_number) = true)
    (a__law_constant : PySem.W.nsIn K mainGlobals "_law_constant" = some (some (.ref f__law_constant)))
    (l__law_constant : K.lookup f__law_constant = some ⟨oc__law_constant, od__law_constant, .func (PySem.W.fnOf "_law_constant" "_law_constant" (defArgs s__law_constant) (defBody s__law_constant) (defScope s__law_constant) .none kV__law_constant dc__law_constant pm__law_constant an__law_constant cd__law_constant ct__law_constant), sl__law_constant⟩)
    (c__law_constant : PySem.W.codeIn K cd__law_constant "_law_constant" = true)
    (k__law_constant : PySem.W.keepIn K (.ref f__law_constant) = true)
    (a__law_names : PySem.W.nsIn K mainGlobals "_law_names" = some (some (.ref f__law_names)))
    (l__law_names : K.lookup f__law_names = some ⟨oc__law_names, od__law_names, .func (PySem.W.fnOf "_law_names" "_law_names" (defArgs s__law_names) (defBody s__law_names) (defScope s__law_names) .none kV__law_names dc__law_names pm__law_names an__law_names cd__law_names ct__law_names), sl__law_names⟩)
    (c__law_names : PySem.W.codeIn K cd__law_names "_law_names" = true)
    (k__law_names : PySem.W.keepIn K (.ref f__law_names) = true)
    (a__law_is_int : PySem.W.nsIn K mainGlobals "_law_is_int" = some (some (.ref f__law_is_int)))
    (l__law_is_int : K.lookup f__law_is_int = some ⟨oc__law_is_int, od__law_is_int, .func (PySem.W.fnOf "_law_is_int" "_law_is_int" (defArgs s__law_is_int) (defBody s__law_is_int) (defScope s__law_is_int) .none kV__law_is_int dc__law_is_int pm__law_is_int an__law_is_int cd__law_is_int ct__law_is_int), sl__law_is_int⟩)
    (c__law_is_int : PySem.W.codeIn K cd__law_is_int "_law_is_int" = true)
    (k__law_is_int : PySem.W.keepIn K (.ref f__law_is_int) = true)
    (a__law_same : PySem.W.nsIn K mainGlobals "_law_same" = some (some (.ref f__law_same)))
    (l__law_same : K.lookup f__law_same = some ⟨oc__law_same, od__law_same, .func (PySem.W.fnOf "_law_same" "_law_same" (defArgs s__law_same) (defBody s__law_same) (defScope s__law_same) .none kV__law_same dc__law_same pm__law_same an__law_same cd__law_same ct__law_same), sl__law_same⟩)
    (c__law_same : PySem.W.codeIn K cd__law_same "_law_same" = true)
    (k__law_same : PySem.W.keepIn K (.ref f__law_same) = true)
    (a__law_assignments : PySem.W.nsIn K mainGlobals "_law_assignments" = some (some (.ref f__law_assignments)))
    (l__law_assignments : K.lookup f__law_assignments = some ⟨oc__law_assignments, od__law_assignments, .func (PySem.W.fnOf "_law_assignments" "_law_assignments" (defArgs s__law_assignments) (defBody s__law_assignments) (defScope s__law_assignments) .none kV__law_assignments dc__law_assignments pm__law_assignments an__law_assignments cd__law_assignments ct__law_assignments), sl__law_assignments⟩)
    (c__law_assignments : PySem.W.codeIn K cd__law_assignments "_law_assignments" = true)
    (k__law_assignments : PySem.W.keepIn K (.ref f__law_assignments) = true)
    (a__law_changed : PySem.W.nsIn K mainGlobals "_law_changed" = some (some (.ref f__law_changed)))
    (l__law_changed : K.lookup f__law_changed = some ⟨oc__law_changed, od__law_changed, .func (PySem.W.fnOf "_law_changed" "_law_changed" (defArgs s__law_changed) (defBody s__law_changed) (defScope s__law_changed) .none kV__law_changed dc__law_changed pm__law_changed an__law_changed cd__law_changed ct__law_changed), sl__law_changed⟩)
    (c__law_changed : PySem.W.codeIn K cd__law_changed "_law_changed" = true)
    (k__law_changed : PySem.W.keepIn K (.ref f__law_changed) = true)
    (fa_Change___init__ : PySem.W.findIn K (.ref a_Change) "__init__" = some (some (.ref f_Change___init__)))
    (fn_Change___init__ : PySem.W.isFn K (.ref f_Change___init__) = true)
    (l_Change___init__ : K.lookup f_Change___init__ = some ⟨oc_Change___init__, od_Change___init__, .func (PySem.W.fnOf "__init__" "Change.__init__" (defArgs s_Change___init__) (defBody s_Change___init__) (defScope s_Change___init__) .none kV_Change___init__ dc_Change___init__ pm_Change___init__ an_Change___init__ cd_Change___init__ ct_Change___init__), sl_Change___init__⟩)
    (c_Change___init__ : PySem.W.codeIn K cd_Change___init__ "Change.__init__" = true)
    (k_Change___init__ : PySem.W.keepIn K (.ref f_Change___init__) = true)
    (sg_Change_none : PySem.W.findCls K (.ref a_Change) (.type "type") "none" = some (.get (.builtin "staticmethod.__get__") (.ref p_Change_none) .none (.ref a_Change)))
    (sr_Change_none : PySem.W.recIn K p_Change_none "staticmethod" = some (.ref f_Change_none :: r_Change_none))
    (l_Change_none : K.lookup f_Change_none = some ⟨oc_Change_none, od_Change_none, .func (PySem.W.fnOf "none" "Change.none" (defArgs s_Change_none) (defBody s_Change_none) (defScope s_Change_none) .none kV_Change_none dc_Change_none pm_Change_none an_Change_none cd_Change_none ct_Change_none), sl_Change_none⟩)
    (c_Change_none : PySem.W.codeIn K cd_Change_none "Change.none" = true)
    (k_Change_none : PySem.W.keepIn K (.ref f_Change_none) = true)
    (sg_Change_adding : PySem.W.findCls K (.ref a_Change) (.type "type") "adding" = some (.get (.builtin "staticmethod.__get__") (.ref p_Change_adding) .none (.ref a_Change)))
    (sr_Change_adding : PySem.W.recIn K p_Change_adding "staticmethod" = some (.ref f_Change_adding :: r_Change_adding))
    (l_Change_adding : K.lookup f_Change_adding = some ⟨oc_Change_adding, od_Change_adding, .func (PySem.W.fnOf "adding" "Change.adding" (defArgs s_Change_adding) (defBody s_Change_adding) (defScope s_Change_adding) .none kV_Change_adding dc_Change_adding pm_Change_adding an_Change_adding cd_Change_adding ct_Change_adding), sl_Change_adding⟩)
    (c_Change_adding : PySem.W.codeIn K cd_Change_adding "Change.adding" = true)
    (k_Change_adding : PySem.W.keepIn K (.ref f_Change_adding) = true)
    (sg_Change_setting : PySem.W.findCls K (.ref a_Change) (.type "type") "setting" = some (.get (.builtin "staticmethod.__get__") (.ref p_Change_setting) .none (.ref a_Change)))
    (sr_Change_setting : PySem.W.recIn K p_Change_setting "staticmethod" = some (.ref f_Change_setting :: r_Change_setting))
    (l_Change_setting : K.lookup f_Change_setting = some ⟨oc_Change_setting, od_Change_setting, .func (PySem.W.fnOf "setting" "Change.setting" (defArgs s_Change_setting) (defBody s_Change_setting) (defScope s_Change_setting) .none kV_Change_setting dc_Change_setting pm_Change_setting an_Change_setting cd_Change_setting ct_Change_setting), sl_Change_setting⟩)
    (c_Change_setting : PySem.W.codeIn K cd_Change_setting "Change.setting" = true)
    (k_Change_setting : PySem.W.keepIn K (.ref f_Change_setting) = true)
    (pa_Change_assigned : PySem.W.findIn K (.ref a_Change) "assigned" = some (some (.ref p_Change_assigned)))
    (ps_Change_assigned : PySem.W.specialIn K (.ref p_Change_assigned) "__get__" = some (some (.builtin "property.__get__")))
    (pt_Change_assigned : PySem.W.takesIn K (.ref p_Change_assigned) = some true)
    (pr_Change_assigned : PySem.W.recIn K p_Change_assigned "property" = some (.ref f_Change_assigned :: r_Change_assigned))
    (l_Change_assigned : K.lookup f_Change_assigned = some ⟨oc_Change_assigned, od_Change_assigned, .func (PySem.W.fnOf "assigned" "Change.assigned" (defArgs s_Change_assigned) (defBody s_Change_assigned) (defScope s_Change_assigned) .none kV_Change_assigned dc_Change_assigned pm_Change_assigned an_Change_assigned cd_Change_assigned ct_Change_assigned), sl_Change_assigned⟩)
    (c_Change_assigned : PySem.W.codeIn K cd_Change_assigned "Change.assigned" = true)
    (k_Change_assigned : PySem.W.keepIn K (.ref f_Change_assigned) = true)
    (fa_Change___rshift__ : PySem.W.findIn K (.ref a_Change) "__rshift__" = some (some (.ref f_Change___rshift__)))
    (fn_Change___rshift__ : PySem.W.isFn K (.ref f_Change___rshift__) = true)
    (l_Change___rshift__ : K.lookup f_Change___rshift__ = some ⟨oc_Change___rshift__, od_Change___rshift__, .func (PySem.W.fnOf "__rshift__" "Change.__rshift__" (defArgs s_Change___rshift__) (defBody s_Change___rshift__) (defScope s_Change___rshift__) .none kV_Change___rshift__ dc_Change___rshift__ pm_Change___rshift__ an_Change___rshift__ cd_Change___rshift__ ct_Change___rshift__), sl_Change___rshift__⟩)
    (c_Change___rshift__ : PySem.W.codeIn K cd_Change___rshift__ "Change.__rshift__" = true)
    (k_Change___rshift__ : PySem.W.keepIn K (.ref f_Change___rshift__) = true)
    (a__law_change : PySem.W.nsIn K mainGlobals "_law_change" = some (some (.ref f__law_change)))
    (l__law_change : K.lookup f__law_change = some ⟨oc__law_change, od__law_change, .func (PySem.W.fnOf "_law_change" "_law_change" (defArgs s__law_change) (defBody s__law_change) (defScope s__law_change) .none kV__law_change dc__law_change pm__law_change an__law_change cd__law_change ct__law_change), sl__law_change⟩)
    (c__law_change : PySem.W.codeIn K cd__law_change "_law_change" = true)
    (k__law_change : PySem.W.keepIn K (.ref f__law_change) = true)
    (a__law_reserved : PySem.W.nsIn K mainGlobals "_law_reserved" = some (some (.ref f__law_reserved)))
    (l__law_reserved : K.lookup f__law_reserved = some ⟨oc__law_reserved, od__law_reserved, .func (PySem.W.fnOf "_law_reserved" "_law_reserved" (defArgs s__law_reserved) (defBody s__law_reserved) (defScope s__law_reserved) .none kV__law_reserved dc__law_reserved pm__law_reserved an__law_reserved cd__law_reserved ct__law_reserved), sl__law_reserved⟩)
    (c__law_reserved : PySem.W.codeIn K cd__law_reserved "_law_reserved" = true)
    (k__law_reserved : PySem.W.keepIn K (.ref f__law_reserved) = true)
    (a__law_bad_name : PySem.W.nsIn K mainGlobals "_law_bad_name" = some (some (.ref f__law_bad_name)))
    (l__law_bad_name : K.lookup f__law_bad_name = some ⟨oc__law_bad_name, od__law_bad_name, .func (PySem.W.fnOf "_law_bad_name" "_law_bad_name" (defArgs s__law_bad_name) (defBody s__law_bad_name) (defScope s__law_bad_name) .none kV__law_bad_name dc__law_bad_name pm__law_bad_name an__law_bad_name cd__law_bad_name ct__law_bad_name), sl__law_bad_name⟩)
    (c__law_bad_name : PySem.W.codeIn K cd__law_bad_name "_law_bad_name" = true)
    (k__law_bad_name : PySem.W.keepIn K (.ref f__law_bad_name) = true)
    (a__law_bad_number : PySem.W.nsIn K mainGlobals "_law_bad_number" = some (some (.ref f__law_bad_number)))
    (l__law_bad_number : K.lookup f__law_bad_number = some ⟨oc__law_bad_number, od__law_bad_number, .func (PySem.W.fnOf "_law_bad_number" "_law_bad_number" (defArgs s__law_bad_number) (defBody s__law_bad_number) (defScope s__law_bad_number) .none kV__law_bad_number dc__law_bad_number pm__law_bad_number an__law_bad_number cd__law_bad_number ct__law_bad_number), sl__law_bad_number⟩)
    (c__law_bad_number : PySem.W.codeIn K cd__law_bad_number "_law_bad_number" = true)
    (k__law_bad_number : PySem.W.keepIn K (.ref f__law_bad_number) = true)
    (a__law_part : PySem.W.nsIn K mainGlobals "_law_part" = some (some (.ref f__law_part)))
    (l__law_part : K.lookup f__law_part = some ⟨oc__law_part, od__law_part, .func (PySem.W.fnOf "_law_part" "_law_part" (defArgs s__law_part) (defBody s__law_part) (defScope s__law_part) .none kV__law_part dc__law_part pm__law_part an__law_part cd__law_part ct__law_part), sl__law_part⟩)
    (c__law_part : PySem.W.codeIn K cd__law_part "_law_part" = true)
    (k__law_part : PySem.W.keepIn K (.ref f__law_part) = true)
    (fa_Change___call__ : PySem.W.findIn K (.ref a_Change) "__call__" = some (some (.ref f_Change___call__)))
    (fn_Change___call__ : PySem.W.isFn K (.ref f_Change___call__) = true)
    (fi_Change___call__ : PySem.W.fnIn K f_Change___call__ = true)
    (l_Change___call__ : K.lookup f_Change___call__ = some ⟨oc_Change___call__, od_Change___call__, .func (PySem.W.fnOf "__call__" "Change.__call__" (defArgs s_Change___call__) (defBody s_Change___call__) (defScope s_Change___call__) .none kV_Change___call__ dc_Change___call__ pm_Change___call__ an_Change___call__ cd_Change___call__ ct_Change___call__), sl_Change___call__⟩)
    (c_Change___call__ : PySem.W.codeIn K cd_Change___call__ "Change.__call__" = true)
    (k_Change___call__ : PySem.W.keepIn K (.ref f_Change___call__) = true)
    (a__law_ask : PySem.W.nsIn K mainGlobals "_law_ask" = some (some (.ref f__law_ask)))
    (l__law_ask : K.lookup f__law_ask = some ⟨oc__law_ask, od__law_ask, .func (PySem.W.fnOf "_law_ask" "_law_ask" (defArgs s__law_ask) (defBody s__law_ask) (defScope s__law_ask) .none kV__law_ask dc__law_ask pm__law_ask an__law_ask cd__law_ask ct__law_ask), sl__law_ask⟩)
    (c__law_ask : PySem.W.codeIn K cd__law_ask "_law_ask" = true)
    (k__law_ask : PySem.W.keepIn K (.ref f__law_ask) = true)
    (a__law_acts : PySem.W.nsIn K mainGlobals "_law_acts" = some (some (.ref f__law_acts)))
    (l__law_acts : K.lookup f__law_acts = some ⟨oc__law_acts, od__law_acts, .func (PySem.W.fnOf "_law_acts" "_law_acts" (defArgs s__law_acts) (defBody s__law_acts) (defScope s__law_acts) .none kV__law_acts dc__law_acts pm__law_acts an__law_acts cd__law_acts ct__law_acts), sl__law_acts⟩)
    (c__law_acts : PySem.W.codeIn K cd__law_acts "_law_acts" = true)
    (k__law_acts : PySem.W.keepIn K (.ref f__law_acts) = true)
    (a__law_made : PySem.W.nsIn K mainGlobals "_law_made" = some (some (.ref f__law_made)))
    (l__law_made : K.lookup f__law_made = some ⟨oc__law_made, od__law_made, .func (PySem.W.fnOf "_law_made" "_law_made" (defArgs s__law_made) (defBody s__law_made) (defScope s__law_made) .none kV__law_made dc__law_made pm__law_made an__law_made cd__law_made ct__law_made), sl__law_made⟩)
    (c__law_made : PySem.W.codeIn K cd__law_made "_law_made" = true)
    (k__law_made : PySem.W.keepIn K (.ref f__law_made) = true)
    (a__law_refused : PySem.W.nsIn K mainGlobals "_law_refused" = some (some (.ref f__law_refused)))
    (l__law_refused : K.lookup f__law_refused = some ⟨oc__law_refused, od__law_refused, .func (PySem.W.fnOf "_law_refused" "_law_refused" (defArgs s__law_refused) (defBody s__law_refused) (defScope s__law_refused) .none kV__law_refused dc__law_refused pm__law_refused an__law_refused cd__law_refused ct__law_refused), sl__law_refused⟩)
    (c__law_refused : PySem.W.codeIn K cd__law_refused "_law_refused" = true)
    (k__law_refused : PySem.W.keepIn K (.ref f__law_refused) = true)
    (fa_Change___len__ : PySem.W.findIn K (.ref a_Change) "__len__" = some (some (.ref f_Change___len__)))
    (fn_Change___len__ : PySem.W.isFn K (.ref f_Change___len__) = true)
    (l_Change___len__ : K.lookup f_Change___len__ = some ⟨oc_Change___len__, od_Change___len__, .func (PySem.W.fnOf "__len__" "Change.__len__" (defArgs s_Change___len__) (defBody s_Change___len__) (defScope s_Change___len__) .none kV_Change___len__ dc_Change___len__ pm_Change___len__ an_Change___len__ cd_Change___len__ ct_Change___len__), sl_Change___len__⟩)
    (c_Change___len__ : PySem.W.codeIn K cd_Change___len__ "Change.__len__" = true)
    (k_Change___len__ : PySem.W.keepIn K (.ref f_Change___len__) = true)
    (a__law_is : PySem.W.nsIn K mainGlobals "_law_is" = some (some (.ref f__law_is)))
    (l__law_is : K.lookup f__law_is = some ⟨oc__law_is, od__law_is, .func (PySem.W.fnOf "_law_is" "_law_is" (defArgs s__law_is) (defBody s__law_is) (defScope s__law_is) .none kV__law_is dc__law_is pm__law_is an__law_is cd__law_is ct__law_is), sl__law_is⟩)
    (c__law_is : PySem.W.codeIn K cd__law_is "_law_is" = true)
    (k__law_is : PySem.W.keepIn K (.ref f__law_is) = true)
    (a_law : PySem.W.nsIn K mainGlobals "law" = some (some (.ref f_law)))
    (l_law : K.lookup f_law = some ⟨oc_law, od_law, .func (PySem.W.fnOf "law" "law" (defArgs s_law) (defBody s_law) (defScope s_law) .none kV_law dc_law pm_law an_law cd_law ct_law), sl_law⟩)
    (c_law : PySem.W.codeIn K cd_law "law" = true)
    (k_law : PySem.W.keepIn K (.ref f_law) = true)
    (z_ValueError : PySem.W.nsIn K mainGlobals "ValueError" = some none)
    (z_all : PySem.W.nsIn K mainGlobals "all" = some none)
    (z_bool : PySem.W.nsIn K mainGlobals "bool" = some none)
    (z_dict : PySem.W.nsIn K mainGlobals "dict" = some none)
    (z_int : PySem.W.nsIn K mainGlobals "int" = some none)
    (z_isinstance : PySem.W.nsIn K mainGlobals "isinstance" = some none)
    (z_len : PySem.W.nsIn K mainGlobals "len" = some none)
    (z_list : PySem.W.nsIn K mainGlobals "list" = some none)
    (z_min : PySem.W.nsIn K mainGlobals "min" = some none)
    (z_property : PySem.W.nsIn K mainGlobals "property" = some none)
    (z_range : PySem.W.nsIn K mainGlobals "range" = some none)
    (z_staticmethod : PySem.W.nsIn K mainGlobals "staticmethod" = some none)
    (z_str : PySem.W.nsIn K mainGlobals "str" = some none)
    (z_super : PySem.W.nsIn K mainGlobals "super" = some none)
    (z_tuple : PySem.W.nsIn K mainGlobals "tuple" = some none)
    (g_BOUND : PySem.W.nsIn K mainGlobals "BOUND" = some (some (.int 1000000000000000000000000000000 t_BOUND)))
    (g_LETTERS : PySem.W.nsIn K mainGlobals "LETTERS" = some (some (.str "abcdefghijklmnopqrstuvwxyz" t_LETTERS)))
    (g_LONGEST_NAME : PySem.W.nsIn K mainGlobals "LONGEST_NAME" = some (some (.int 12 t_LONGEST_NAME)))
    (g_RESERVED : PySem.W.nsIn K mainGlobals "RESERVED" = some (some (.ref a_RESERVED)))
    (l_RESERVED : K.lookup a_RESERVED = some ⟨.type "tuple", od_RESERVED, .seq its_RESERVED n_RESERVED, sl_RESERVED⟩)
    (v_RESERVED : Vals [(.str "always"), (.str "never"), (.str "and"), (.str "or"), (.str "not"), (.str "when"), (.str "add"), (.str "set"), (.str "change"), (.str "tell"), (.str "refuse"), (.str "take"), (.str "look"), (.str "free"), (.str "lock"), (.str "keep"), (.str "keys"), (.str "fields")] its_RESERVED.toList)
    (g_BadName : PySem.W.nsIn K mainGlobals "BadName" = some (some (.ref a_BadName)))
    (g_BadNumber : PySem.W.nsIn K mainGlobals "BadNumber" = some (some (.ref a_BadNumber)))
    (g_ElseputError : PySem.W.nsIn K mainGlobals "ElseputError" = some (some (.ref a_ElseputError)))
    (g_TooLarge : PySem.W.nsIn K mainGlobals "TooLarge" = some (some (.ref a_TooLarge)))
    (g_UnknownField : PySem.W.nsIn K mainGlobals "UnknownField" = some (some (.ref a_UnknownField)))
    (g_UnknownKey : PySem.W.nsIn K mainGlobals "UnknownKey" = some (some (.ref a_UnknownKey)))
    (g_UnknownName : PySem.W.nsIn K mainGlobals "UnknownName" = some (some (.ref a_UnknownName)))
    (g_UnknownShape : PySem.W.nsIn K mainGlobals "UnknownShape" = some (some (.ref a_UnknownShape)))
    (st_any : PySem.W.nsIn K PySem.cStatics "thirdparty.any" = some none)
    (htop : (l.prog.main.scope.names.lookup ("super" : Str)).isSome = false)
    (xc_BadName : K.lookup a_BadName = some (excClassObj nm_BadName q_BadName a_BadName N_BadName bs_BadName bm_BadName true sn_BadName sub_BadName ab_BadName col_BadName dd_BadName e0_BadName e1_BadName e2_BadName e3_BadName e5_BadName "ValueError.__new__"))
    (ref_BadName : PySem.HandSPX.refsVE bm_BadName = true)
    (sa_BadName : PySem.W.findIn K (.ref a_BadName) "__setattr__" = some (some (.builtin "object.__setattr__")))
    (eb_BadName : PySem.W.subIn K (.ref a_BadName) (.type "BaseException") = some true)
    (ty_BadName : PySem.W.typeIn K (.ref a_BadName) = some (.type "type"))
    (kC_BadName : PySem.W.keepIn K (.ref a_BadName) = true)
    (iC_BadName : PySem.W.findIn K (.ref a_BadName) "__init__" = some (some (.ref f_BadName)))
    (tI_BadName : PySem.W.typeIn K (.ref f_BadName) = some (.type "function"))
    (sup_BadName : PySem.W.ks_superIn K a_BadName a_BadName "__init__" = some (some (.builtin "ValueError.__init__")))
    (sv_BadName : PySem.W.subIn K (.ref a_BadName) (.type "ValueError") = some true)
    (mro_BadName : PySem.W.mroIn K a_BadName (.ref a_BadName) = some true)
    (no0_BadName : PySem.W.findIn K (.ref a_BadName) "name" = some none)
    (ga_BadName : PySem.W.findIn K (.ref a_BadName) "__getattribute__" = some (some (.builtin "BaseException.__getattribute__")))
    (gg_BadName : PySem.W.findIn K (.ref a_BadName) "__getattr__" = some none)
    (hd_BadName : PySem.W.hasDictIn K a_BadName = true)
    (hcl_BadName : PySem.W.findIn K (.ref a_BadName) "__class__" = some (some (.builtin "object.__class__")))
    (hn_BadName : PySem.W.specialIn K (.builtin "object.__class__") "__get__" = some (some (.builtin "getset_descriptor.__get__")))
    (ht_BadName : PySem.W.takesIn K (.builtin "object.__class__") = some true)
    (hm_BadName : PySem.W.mroIn K a_BadName (.type "object") = some true)
    (lf_BadName : K.lookup f_BadName = some ⟨oc_BadName, od_BadName, .func (PySem.W.fnX "__init__" "BadName.__init__" (defArgs s_BadName) (defBody s_BadName) (defScope s_BadName) [("__class__", cc_BadName)] .none .none doc_BadName pm_BadName none (.ref cda_BadName) ct_BadName), osl_BadName⟩)
    (cd_BadName : PySem.W.codeIn K (.ref cda_BadName) "BadName.__init__" = true)
    (lc_BadName : K.lookup cda_BadName = some ⟨ccl_BadName, cdd_BadName, .fields vs_BadName, ccs_BadName⟩)
    (v2_BadName : vs_BadName[2]? = some (.str file_BadName tf_BadName))
    (fe_BadName : ((l.prog.main.file : Str) == file_BadName) = true)
    (lcc_BadName : K.lookup cc_BadName = some ⟨cl_BadName, cld_BadName, .cell (some (.ref a_BadName)), csl_BadName⟩)
    (hD_BadName : PySem.W.clsIn K a_BadName = some cdD_BadName)
    (xc_BadNumber : K.lookup a_BadNumber = some (excClassObj nm_BadNumber q_BadNumber a_BadNumber N_BadNumber bs_BadNumber bm_BadNumber true sn_BadNumber sub_BadNumber ab_BadNumber col_BadNumber dd_BadNumber e0_BadNumber e1_BadNumber e2_BadNumber e3_BadNumber e5_BadNumber "ValueError.__new__"))
    (ref_BadNumber : PySem.HandSPX.refsVE bm_BadNumber = true)
    (sa_BadNumber : PySem.W.findIn K (.ref a_BadNumber) "__setattr__" = some (some (.builtin "object.__setattr__")))
    (eb_BadNumber : PySem.W.subIn K (.ref a_BadNumber) (.type "BaseException") = some true)
    (ty_BadNumber : PySem.W.typeIn K (.ref a_BadNumber) = some (.type "type"))
    (kC_BadNumber : PySem.W.keepIn K (.ref a_BadNumber) = true)
    (iC_BadNumber : PySem.W.findIn K (.ref a_BadNumber) "__init__" = some (some (.ref f_BadNumber)))
    (tI_BadNumber : PySem.W.typeIn K (.ref f_BadNumber) = some (.type "function"))
    (sup_BadNumber : PySem.W.ks_superIn K a_BadNumber a_BadNumber "__init__" = some (some (.builtin "ValueError.__init__")))
    (sv_BadNumber : PySem.W.subIn K (.ref a_BadNumber) (.type "ValueError") = some true)
    (mro_BadNumber : PySem.W.mroIn K a_BadNumber (.ref a_BadNumber) = some true)
    (no0_BadNumber : PySem.W.findIn K (.ref a_BadNumber) "value" = some none)
    (ga_BadNumber : PySem.W.findIn K (.ref a_BadNumber) "__getattribute__" = some (some (.builtin "BaseException.__getattribute__")))
    (gg_BadNumber : PySem.W.findIn K (.ref a_BadNumber) "__getattr__" = some none)
    (hd_BadNumber : PySem.W.hasDictIn K a_BadNumber = true)
    (hcl_BadNumber : PySem.W.findIn K (.ref a_BadNumber) "__class__" = some (some (.builtin "object.__class__")))
    (hn_BadNumber : PySem.W.specialIn K (.builtin "object.__class__") "__get__" = some (some (.builtin "getset_descriptor.__get__")))
    (ht_BadNumber : PySem.W.takesIn K (.builtin "object.__class__") = some true)
    (hm_BadNumber : PySem.W.mroIn K a_BadNumber (.type "object") = some true)
    (lf_BadNumber : K.lookup f_BadNumber = some ⟨oc_BadNumber, od_BadNumber, .func (PySem.W.fnX "__init__" "BadNumber.__init__" (defArgs s_BadNumber) (defBody s_BadNumber) (defScope s_BadNumber) [("__class__", cc_BadNumber)] .none .none doc_BadNumber pm_BadNumber none (.ref cda_BadNumber) ct_BadNumber), osl_BadNumber⟩)
    (cd_BadNumber : PySem.W.codeIn K (.ref cda_BadNumber) "BadNumber.__init__" = true)
    (lc_BadNumber : K.lookup cda_BadNumber = some ⟨ccl_BadNumber, cdd_BadNumber, .fields vs_BadNumber, ccs_BadNumber⟩)
    (v2_BadNumber : vs_BadNumber[2]? = some (.str file_BadNumber tf_BadNumber))
    (fe_BadNumber : ((l.prog.main.file : Str) == file_BadNumber) = true)
    (lcc_BadNumber : K.lookup cc_BadNumber = some ⟨cl_BadNumber, cld_BadNumber, .cell (some (.ref a_BadNumber)), csl_BadNumber⟩)
    (hD_BadNumber : PySem.W.clsIn K a_BadNumber = some cdD_BadNumber)
    (xc_TooLarge : K.lookup a_TooLarge = some (excClassObj nm_TooLarge q_TooLarge a_TooLarge N_TooLarge bs_TooLarge bm_TooLarge true sn_TooLarge sub_TooLarge ab_TooLarge col_TooLarge dd_TooLarge e0_TooLarge e1_TooLarge e2_TooLarge e3_TooLarge e5_TooLarge "ValueError.__new__"))
    (ref_TooLarge : PySem.HandSPX.refsVE bm_TooLarge = true)
    (sa_TooLarge : PySem.W.findIn K (.ref a_TooLarge) "__setattr__" = some (some (.builtin "object.__setattr__")))
    (eb_TooLarge : PySem.W.subIn K (.ref a_TooLarge) (.type "BaseException") = some true)
    (ty_TooLarge : PySem.W.typeIn K (.ref a_TooLarge) = some (.type "type"))
    (kC_TooLarge : PySem.W.keepIn K (.ref a_TooLarge) = true)
    (iC_TooLarge : PySem.W.findIn K (.ref a_TooLarge) "__init__" = some (some (.ref f_TooLarge)))
    (tI_TooLarge : PySem.W.typeIn K (.ref f_TooLarge) = some (.type "function"))
    (sup_TooLarge : PySem.W.ks_superIn K a_TooLarge a_TooLarge "__init__" = some (some (.builtin "ValueError.__init__")))
    (sv_TooLarge : PySem.W.subIn K (.ref a_TooLarge) (.type "ValueError") = some true)
    (mro_TooLarge : PySem.W.mroIn K a_TooLarge (.ref a_TooLarge) = some true)
    (no0_TooLarge : PySem.W.findIn K (.ref a_TooLarge) "most" = some none)
    (ga_TooLarge : PySem.W.findIn K (.ref a_TooLarge) "__getattribute__" = some (some (.builtin "BaseException.__getattribute__")))
    (gg_TooLarge : PySem.W.findIn K (.ref a_TooLarge) "__getattr__" = some none)
    (hd_TooLarge : PySem.W.hasDictIn K a_TooLarge = true)
    (hcl_TooLarge : PySem.W.findIn K (.ref a_TooLarge) "__class__" = some (some (.builtin "object.__class__")))
    (hn_TooLarge : PySem.W.specialIn K (.builtin "object.__class__") "__get__" = some (some (.builtin "getset_descriptor.__get__")))
    (ht_TooLarge : PySem.W.takesIn K (.builtin "object.__class__") = some true)
    (hm_TooLarge : PySem.W.mroIn K a_TooLarge (.type "object") = some true)
    (lf_TooLarge : K.lookup f_TooLarge = some ⟨oc_TooLarge, od_TooLarge, .func (PySem.W.fnX "__init__" "TooLarge.__init__" (defArgs s_TooLarge) (defBody s_TooLarge) (defScope s_TooLarge) [("__class__", cc_TooLarge)] .none .none doc_TooLarge pm_TooLarge none (.ref cda_TooLarge) ct_TooLarge), osl_TooLarge⟩)
    (cd_TooLarge : PySem.W.codeIn K (.ref cda_TooLarge) "TooLarge.__init__" = true)
    (lc_TooLarge : K.lookup cda_TooLarge = some ⟨ccl_TooLarge, cdd_TooLarge, .fields vs_TooLarge, ccs_TooLarge⟩)
    (v2_TooLarge : vs_TooLarge[2]? = some (.str file_TooLarge tf_TooLarge))
    (fe_TooLarge : ((l.prog.main.file : Str) == file_TooLarge) = true)
    (lcc_TooLarge : K.lookup cc_TooLarge = some ⟨cl_TooLarge, cld_TooLarge, .cell (some (.ref a_TooLarge)), csl_TooLarge⟩)
    (hD_TooLarge : PySem.W.clsIn K a_TooLarge = some cdD_TooLarge)
    (xc_UnknownName : K.lookup a_UnknownName = some (excClassObj nm_UnknownName q_UnknownName a_UnknownName N_UnknownName bs_UnknownName bm_UnknownName true sn_UnknownName sub_UnknownName ab_UnknownName col_UnknownName dd_UnknownName e0_UnknownName e1_UnknownName e2_UnknownName e3_UnknownName e5_UnknownName "ValueError.__new__"))
    (ref_UnknownName : PySem.HandSPX.refsVE bm_UnknownName = true)
    (sa_UnknownName : PySem.W.findIn K (.ref a_UnknownName) "__setattr__" = some (some (.builtin "object.__setattr__")))
    (eb_UnknownName : PySem.W.subIn K (.ref a_UnknownName) (.type "BaseException") = some true)
    (ty_UnknownName : PySem.W.typeIn K (.ref a_UnknownName) = some (.type "type"))
    (kC_UnknownName : PySem.W.keepIn K (.ref a_UnknownName) = true)
    (iC_UnknownName : PySem.W.findIn K (.ref a_UnknownName) "__init__" = some (some (.ref f_UnknownName)))
    (tI_UnknownName : PySem.W.typeIn K (.ref f_UnknownName) = some (.type "function"))
    (sup_UnknownName : PySem.W.ks_superIn K a_UnknownName a_UnknownName "__init__" = some (some (.builtin "ValueError.__init__")))
    (sv_UnknownName : PySem.W.subIn K (.ref a_UnknownName) (.type "ValueError") = some true)
    (mro_UnknownName : PySem.W.mroIn K a_UnknownName (.ref a_UnknownName) = some true)
    (no0_UnknownName : PySem.W.findIn K (.ref a_UnknownName) "name" = some none)
    (ga_UnknownName : PySem.W.findIn K (.ref a_UnknownName) "__getattribute__" = some (some (.builtin "BaseException.__getattribute__")))
    (gg_UnknownName : PySem.W.findIn K (.ref a_UnknownName) "__getattr__" = some none)
    (hd_UnknownName : PySem.W.hasDictIn K a_UnknownName = true)
    (hcl_UnknownName : PySem.W.findIn K (.ref a_UnknownName) "__class__" = some (some (.builtin "object.__class__")))
    (hn_UnknownName : PySem.W.specialIn K (.builtin "object.__class__") "__get__" = some (some (.builtin "getset_descriptor.__get__")))
    (ht_UnknownName : PySem.W.takesIn K (.builtin "object.__class__") = some true)
    (hm_UnknownName : PySem.W.mroIn K a_UnknownName (.type "object") = some true)
    (lf_UnknownName : K.lookup f_UnknownName = some ⟨oc_UnknownName, od_UnknownName, .func (PySem.W.fnX "__init__" "UnknownName.__init__" (defArgs s_UnknownName) (defBody s_UnknownName) (defScope s_UnknownName) [("__class__", cc_UnknownName)] .none .none doc_UnknownName pm_UnknownName none (.ref cda_UnknownName) ct_UnknownName), osl_UnknownName⟩)
    (cd_UnknownName : PySem.W.codeIn K (.ref cda_UnknownName) "UnknownName.__init__" = true)
    (lc_UnknownName : K.lookup cda_UnknownName = some ⟨ccl_UnknownName, cdd_UnknownName, .fields vs_UnknownName, ccs_UnknownName⟩)
    (v2_UnknownName : vs_UnknownName[2]? = some (.str file_UnknownName tf_UnknownName))
    (fe_UnknownName : ((l.prog.main.file : Str) == file_UnknownName) = true)
    (lcc_UnknownName : K.lookup cc_UnknownName = some ⟨cl_UnknownName, cld_UnknownName, .cell (some (.ref a_UnknownName)), csl_UnknownName⟩)
    (hD_UnknownName : PySem.W.clsIn K a_UnknownName = some cdD_UnknownName)
    (xc_UnknownField : K.lookup a_UnknownField = some (excClassObj nm_UnknownField q_UnknownField a_UnknownField N_UnknownField bs_UnknownField bm_UnknownField true sn_UnknownField sub_UnknownField ab_UnknownField col_UnknownField dd_UnknownField e0_UnknownField e1_UnknownField e2_UnknownField e3_UnknownField e5_UnknownField "ValueError.__new__"))
    (ref_UnknownField : PySem.HandSPX.refsVE bm_UnknownField = true)
    (sa_UnknownField : PySem.W.findIn K (.ref a_UnknownField) "__setattr__" = some (some (.builtin "object.__setattr__")))
    (eb_UnknownField : PySem.W.subIn K (.ref a_UnknownField) (.type "BaseException") = some true)
    (ty_UnknownField : PySem.W.typeIn K (.ref a_UnknownField) = some (.type "type"))
    (kC_UnknownField : PySem.W.keepIn K (.ref a_UnknownField) = true)
    (iC_UnknownField : PySem.W.findIn K (.ref a_UnknownField) "__init__" = some (some (.ref f_UnknownField)))
    (tI_UnknownField : PySem.W.typeIn K (.ref f_UnknownField) = some (.type "function"))
    (sv_UnknownField : PySem.W.subIn K (.ref a_UnknownField) (.type "ValueError") = some true)
    (no0_UnknownField : PySem.W.findIn K (.ref a_UnknownField) "name" = some none)
    (ga_UnknownField : PySem.W.findIn K (.ref a_UnknownField) "__getattribute__" = some (some (.builtin "BaseException.__getattribute__")))
    (gg_UnknownField : PySem.W.findIn K (.ref a_UnknownField) "__getattr__" = some none)
    (hd_UnknownField : PySem.W.hasDictIn K a_UnknownField = true)
    (hcl_UnknownField : PySem.W.findIn K (.ref a_UnknownField) "__class__" = some (some (.builtin "object.__class__")))
    (hn_UnknownField : PySem.W.specialIn K (.builtin "object.__class__") "__get__" = some (some (.builtin "getset_descriptor.__get__")))
    (ht_UnknownField : PySem.W.takesIn K (.builtin "object.__class__") = some true)
    (hm_UnknownField : PySem.W.mroIn K a_UnknownField (.type "object") = some true)
    (lf_UnknownField : K.lookup f_UnknownField = some ⟨oc_UnknownField, od_UnknownField, .func (PySem.W.fnX "__init__" "UnknownName.__init__" (defArgs s_UnknownField) (defBody s_UnknownField) (defScope s_UnknownField) [("__class__", cc_UnknownField)] .none .none doc_UnknownField pm_UnknownField none (.ref cda_UnknownField) ct_UnknownField), osl_UnknownField⟩)
    (cd_UnknownField : PySem.W.codeIn K (.ref cda_UnknownField) "UnknownName.__init__" = true)
    (lc_UnknownField : K.lookup cda_UnknownField = some ⟨ccl_UnknownField, cdd_UnknownField, .fields vs_UnknownField, ccs_UnknownField⟩)
    (v2_UnknownField : vs_UnknownField[2]? = some (.str file_UnknownField tf_UnknownField))
    (fe_UnknownField : ((l.prog.main.file : Str) == file_UnknownField) = true)
    (lcc_UnknownField : K.lookup cc_UnknownField = some ⟨cl_UnknownField, cld_UnknownField, .cell (some (.ref D_UnknownField)), csl_UnknownField⟩)
    (sup_UnknownField : PySem.W.ks_superIn K a_UnknownField D_UnknownField "__init__" = some (some (.builtin "ValueError.__init__")))
    (mro_UnknownField : PySem.W.mroIn K a_UnknownField (.ref D_UnknownField) = some true)
    (hD_UnknownField : PySem.W.clsIn K D_UnknownField = some cdD_UnknownField)
    (mb_ElseputError : PySem.W.subIn K (.ref a_ElseputError) (.type "BaseException") = some true)
    (md_ElseputError : PySem.W.hasDictIn K a_ElseputError = true)
    (mt_ElseputError : PySem.W.typeIn K (.ref a_ElseputError) = some (.type "type"))
    (ms_BadName_ElseputError : PySem.W.subIn K (.ref a_BadName) (.ref a_ElseputError) = some true)
    (ms_BadNumber_ElseputError : PySem.W.subIn K (.ref a_BadNumber) (.ref a_ElseputError) = some true)
    (ms_TooLarge_ElseputError : PySem.W.subIn K (.ref a_TooLarge) (.ref a_ElseputError) = some true)
    (ms_UnknownField_ElseputError : PySem.W.subIn K (.ref a_UnknownField) (.ref a_ElseputError) = some true)
    (kit_BadName_UnknownField : PySem.W.kitOne K (.ref a_BadName) (.ref a_UnknownField) = some false)
    (kit_BadName_UnknownName : PySem.W.kitOne K (.ref a_BadName) (.ref a_UnknownName) = some false)
    (kit_BadName_ValueError : PySem.W.kitOne K (.ref a_BadName) (.type "ValueError") = some true)
    (kit_BadName_UnknownKey : PySem.W.kitOne K (.ref a_BadName) (.ref a_UnknownKey) = some false)
    (kit_BadName_UnknownShape : PySem.W.kitOne K (.ref a_BadName) (.ref a_UnknownShape) = some false)
    (kit_BadName_BadName : PySem.W.kitOne K (.ref a_BadName) (.ref a_BadName) = some true)
    (kit_BadName_BadNumber : PySem.W.kitOne K (.ref a_BadName) (.ref a_BadNumber) = some false)
    (kit_BadNumber_UnknownField : PySem.W.kitOne K (.ref a_BadNumber) (.ref a_UnknownField) = some false)
    (kit_BadNumber_UnknownName : PySem.W.kitOne K (.ref a_BadNumber) (.ref a_UnknownName) = some false)
    (kit_BadNumber_ValueError : PySem.W.kitOne K (.ref a_BadNumber) (.type "ValueError") = some true)
    (kit_BadNumber_UnknownKey : PySem.W.kitOne K (.ref a_BadNumber) (.ref a_UnknownKey) = some false)
    (kit_BadNumber_UnknownShape : PySem.W.kitOne K (.ref a_BadNumber) (.ref a_UnknownShape) = some false)
    (kit_BadNumber_BadName : PySem.W.kitOne K (.ref a_BadNumber) (.ref a_BadName) = some false)
    (kit_BadNumber_BadNumber : PySem.W.kitOne K (.ref a_BadNumber) (.ref a_BadNumber) = some true)
    (kit_TooLarge_UnknownField : PySem.W.kitOne K (.ref a_TooLarge) (.ref a_UnknownField) = some false)
    (kit_TooLarge_UnknownName : PySem.W.kitOne K (.ref a_TooLarge) (.ref a_UnknownName) = some false)
    (kit_TooLarge_ValueError : PySem.W.kitOne K (.ref a_TooLarge) (.type "ValueError") = some true)
    (kit_TooLarge_UnknownKey : PySem.W.kitOne K (.ref a_TooLarge) (.ref a_UnknownKey) = some false)
    (kit_TooLarge_UnknownShape : PySem.W.kitOne K (.ref a_TooLarge) (.ref a_UnknownShape) = some false)
    (kit_TooLarge_BadName : PySem.W.kitOne K (.ref a_TooLarge) (.ref a_BadName) = some false)
    (kit_TooLarge_BadNumber : PySem.W.kitOne K (.ref a_TooLarge) (.ref a_BadNumber) = some false)
    (kit_UnknownField_UnknownField : PySem.W.kitOne K (.ref a_UnknownField) (.ref a_UnknownField) = some true)
    (kit_UnknownField_UnknownName : PySem.W.kitOne K (.ref a_UnknownField) (.ref a_UnknownName) = some true)
    (kit_UnknownField_ValueError : PySem.W.kitOne K (.ref a_UnknownField) (.type "ValueError") = some true)
    (kit_UnknownField_UnknownKey : PySem.W.kitOne K (.ref a_UnknownField) (.ref a_UnknownKey) = some false)
    (kit_UnknownField_UnknownShape : PySem.W.kitOne K (.ref a_UnknownField) (.ref a_UnknownShape) = some false)
    (kit_UnknownField_BadName : PySem.W.kitOne K (.ref a_UnknownField) (.ref a_BadName) = some false)
    (kit_UnknownField_BadNumber : PySem.W.kitOne K (.ref a_UnknownField) (.ref a_BadNumber) = some false)
    : ∃ fd : FuncData, (∀ (s : Shared) (v : Value), BindsTo s fd ⟨[v], []⟩ [("_law_script", v)]) ∧ ∀ base : Heap, K.In base → base.Ns mainGlobals mg → FnOk l.prog w K mg base CX0 12 fa fd ["_law_script"] (spLaw K) := by
  have e := hfa.symm.trans (PySem.W.mg_of X G a_law)
  cases e
  have XK_BadName : ExK K a_BadName f_BadName ["name"] := exk_mk xc_BadName ref_BadName sa_BadName eb_BadName ty_BadName kC_BadName sup_BadName sv_BadName mro_BadName iC_BadName tI_BadName (fun f hf => by simp only [List.mem_cons, List.not_mem_nil, or_false] at hf; subst hf; exact no0_BadName) ga_BadName gg_BadName hd_BadName hcl_BadName hn_BadName ht_BadName hm_BadName
  have XK_BadNumber : ExK K a_BadNumber f_BadNumber ["value"] := exk_mk xc_BadNumber ref_BadNumber sa_BadNumber eb_BadNumber ty_BadNumber kC_BadNumber sup_BadNumber sv_BadNumber mro_BadNumber iC_BadNumber tI_BadNumber (fun f hf => by simp only [List.mem_cons, List.not_mem_nil, or_false] at hf; subst hf; exact no0_BadNumber) ga_BadNumber gg_BadNumber hd_BadNumber hcl_BadNumber hn_BadNumber ht_BadNumber hm_BadNumber
  have XK_TooLarge : ExK K a_TooLarge f_TooLarge ["most"] := exk_mk xc_TooLarge ref_TooLarge sa_TooLarge eb_TooLarge ty_TooLarge kC_TooLarge sup_TooLarge sv_TooLarge mro_TooLarge iC_TooLarge tI_TooLarge (fun f hf => by simp only [List.mem_cons, List.not_mem_nil, or_false] at hf; subst hf; exact no0_TooLarge) ga_TooLarge gg_TooLarge hd_TooLarge hcl_TooLarge hn_TooLarge ht_TooLarge hm_TooLarge
  have XK_UnknownName : ExK K a_UnknownName f_UnknownName ["name"] := exk_mk xc_UnknownName ref_UnknownName sa_UnknownName eb_UnknownName ty_UnknownName kC_UnknownName sup_UnknownName sv_UnknownName mro_UnknownName iC_UnknownName tI_UnknownName (fun f hf => by simp only [List.mem_cons, List.not_mem_nil, or_false] at hf; subst hf; exact no0_UnknownName) ga_UnknownName gg_UnknownName hd_UnknownName hcl_UnknownName hn_UnknownName ht_UnknownName hm_UnknownName
  have XK_UnknownField : ExI K a_UnknownField D_UnknownField f_UnknownField ["name"] := exi_mk xc_UnknownField ref_UnknownField sa_UnknownField eb_UnknownField ty_UnknownField kC_UnknownField sup_UnknownField sv_UnknownField mro_UnknownField iC_UnknownField tI_UnknownField (fun f hf => by simp only [List.mem_cons, List.not_mem_nil, or_false] at hf; subst hf; exact no0_UnknownField) ga_UnknownField gg_UnknownField hd_UnknownField hcl_UnknownField hn_UnknownField ht_UnknownField hm_UnknownField
  have T : Gs K mg t_BOUND t_LETTERS t_LONGEST_NAME a_RESERVED a_BadName a_BadNumber a_Change a_ElseputError a_TooLarge a_UnknownField a_UnknownKey a_UnknownName a_UnknownShape := { z_ValueError := PySem.W.mg_none_of X G z_ValueError, z_all := PySem.W.mg_none_of X G z_all, z_bool := PySem.W.mg_none_of X G z_bool, z_dict := PySem.W.mg_none_of X G z_dict, z_int := PySem.W.mg_none_of X G z_int, z_isinstance := PySem.W.mg_none_of X G z_isinstance, z_len := PySem.W.mg_none_of X G z_len, z_list := PySem.W.mg_none_of X G z_list, z_min := PySem.W.mg_none_of X G z_min, z_property := PySem.W.mg_none_of X G z_property, z_range := PySem.W.mg_none_of X G z_range, z_staticmethod := PySem.W.mg_none_of X G z_staticmethod, z_str := PySem.W.mg_none_of X G z_str, z_super := PySem.W.mg_none_of X G z_super, z_tuple := PySem.W.mg_none_of X G z_tuple, g_BOUND := PySem.W.mg_of X G g_BOUND, g_LETTERS := PySem.W.mg_of X G g_LETTERS, g_LONGEST_NAME := PySem.W.mg_of X G g_LONGEST_NAME, g_RESERVED := PySem.W.mg_of X G g_RESERVED, g_BadName := PySem.W.mg_of X G g_BadName, g_BadNumber := PySem.W.mg_of X G g_BadNumber, g_Change := PySem.W.mg_of X G g_Change, g_ElseputError := PySem.W.mg_of X G g_ElseputError, g_TooLarge := PySem.W.mg_of X G g_TooLarge, g_UnknownField := PySem.W.mg_of X G g_UnknownField, g_UnknownKey := PySem.W.mg_of X G g_UnknownKey, g_UnknownName := PySem.W.mg_of X G g_UnknownName, g_UnknownShape := PySem.W.mg_of X G g_UnknownShape, q_RESERVED := fun _ => .inr ⟨_, _, _, l_RESERVED, rfl, rfl, (by have e : _ = its_RESERVED.size := v_RESERVED.length.trans Array.length_toList; rw [← e]; decide), v_RESERVED⟩, n_ElseputError := g_ElseputError, n_BadName := g_BadName, n_BadNumber := g_BadNumber, n_TooLarge := g_TooLarge, n_UnknownName := g_UnknownName, n_UnknownKey := g_UnknownKey, n_UnknownField := g_UnknownField, n_UnknownShape := g_UnknownShape, n_Change := g_Change, x_BadName := ⟨XK_BadName.no, XK_BadName.xf, XK_BadName.is⟩, x_BadNumber := ⟨XK_BadNumber.no, XK_BadNumber.xf, XK_BadNumber.is⟩, x_TooLarge := ⟨XK_TooLarge.no, XK_TooLarge.xf, XK_TooLarge.is⟩, x_UnknownName := ⟨XK_UnknownName.no, XK_UnknownName.xf, XK_UnknownName.is⟩, x_UnknownField := ⟨XK_UnknownField.no, XK_UnknownField.xf, XK_UnknownField.is⟩, cl_Change := ⟨pg_Change, hx_Change, po_Change, st_Change⟩, rd_Change := ⟨rr_Change, rg_Change⟩, na_Change_assignments := na_Change_assignments, cv_Change_MOST := ⟨_, cv_Change_MOST, ⟨_, rfl⟩⟩, m_BadName_ElseputError := PySem.W.exm_ref mb_ElseputError md_ElseputError mt_ElseputError ms_BadName_ElseputError, m_BadNumber_ElseputError := PySem.W.exm_ref mb_ElseputError md_ElseputError mt_ElseputError ms_BadNumber_ElseputError, m_TooLarge_ElseputError := PySem.W.exm_ref mb_ElseputError md_ElseputError mt_ElseputError ms_TooLarge_ElseputError, m_UnknownField_ElseputError := PySem.W.exm_ref mb_ElseputError md_ElseputError mt_ElseputError ms_UnknownField_ElseputError, k_BadName_UnknownField := kit_BadName_UnknownField, k_BadName_UnknownName := kit_BadName_UnknownName, k_BadName_ValueError := kit_BadName_ValueError, k_BadName_UnknownKey := kit_BadName_UnknownKey, k_BadName_UnknownShape := kit_BadName_UnknownShape, k_BadName_BadName := kit_BadName_BadName, k_BadName_BadNumber := kit_BadName_BadNumber, k_BadNumber_UnknownField := kit_BadNumber_UnknownField, k_BadNumber_UnknownName := kit_BadNumber_UnknownName, k_BadNumber_ValueError := kit_BadNumber_ValueError, k_BadNumber_UnknownKey := kit_BadNumber_UnknownKey, k_BadNumber_UnknownShape := kit_BadNumber_UnknownShape, k_BadNumber_BadName := kit_BadNumber_BadName, k_BadNumber_BadNumber := kit_BadNumber_BadNumber, k_TooLarge_UnknownField := kit_TooLarge_UnknownField, k_TooLarge_UnknownName := kit_TooLarge_UnknownName, k_TooLarge_ValueError := kit_TooLarge_ValueError, k_TooLarge_UnknownKey := kit_TooLarge_UnknownKey, k_TooLarge_UnknownShape := kit_TooLarge_UnknownShape, k_TooLarge_BadName := kit_TooLarge_BadName, k_TooLarge_BadNumber := kit_TooLarge_BadNumber, k_UnknownField_UnknownField := kit_UnknownField_UnknownField, k_UnknownField_UnknownName := kit_UnknownField_UnknownName, k_UnknownField_ValueError := kit_UnknownField_ValueError, k_UnknownField_UnknownKey := kit_UnknownField_UnknownKey, k_UnknownField_UnknownShape := kit_UnknownField_UnknownShape, k_UnknownField_BadName := kit_UnknownField_BadName, k_UnknownField_BadNumber := kit_UnknownField_BadNumber }
  have F_is_name := fun_mk (st := s_is_name) l_is_name c_is_name k_is_name
  have b_is_name := F_is_name.binds (ps := ["text"]) fun _ _ _ _ _ _ us hl => match us, hl with | [_], _ => rfl
  have F_in_bound := fun_mk (st := s_in_bound) l_in_bound c_in_bound k_in_bound
  have b_in_bound := F_in_bound.binds (ps := ["value"]) fun _ _ _ _ _ _ us hl => match us, hl with | [_], _ => rfl
  have F_check_name := fun_mk (st := s_check_name) l_check_name c_check_name k_check_name
  have b_check_name := F_check_name.binds (ps := ["text"]) fun _ _ _ _ _ _ us hl => match us, hl with | [_], _ => rfl
  have F_check_number := fun_mk (st := s_check_number) l_check_number c_check_number k_check_number
  have b_check_number := F_check_number.binds (ps := ["value"]) fun _ _ _ _ _ _ us hl => match us, hl with | [_], _ => rfl
  have F_followed := fun_mk (st := s_followed) l_followed c_followed k_followed
  have b_followed := F_followed.binds (ps := ["assignment", "later"]) fun _ _ _ _ _ _ us hl => match us, hl with | [_, _], _ => rfl
  have F__law_state := fun_mk (st := s__law_state) l__law_state c__law_state k__law_state
  have b__law_state := F__law_state.binds (ps := ["_law_script"]) fun _ _ _ _ _ _ us hl => match us, hl with | [_], _ => rfl
  have F__law_draw := fun_mk (st := s__law_draw) l__law_draw c__law_draw k__law_draw
  have b__law_draw := F__law_draw.binds (ps := ["_law_state_here", "_law_many"]) fun _ _ _ _ _ _ us hl => match us, hl with | [_, _], _ => rfl
  have F__law_pick := fun_mk (st := s__law_pick) l__law_pick c__law_pick k__law_pick
  have b__law_pick := F__law_pick.binds (ps := ["_law_state_here", "_law_row"]) fun _ _ _ _ _ _ us hl => match us, hl with | [_, _], _ => rfl
  have F__law_mixed := fun_mk (st := s__law_mixed) l__law_mixed c__law_mixed k__law_mixed
  have b__law_mixed := F__law_mixed.binds (ps := ["_law_state_here", "_law_row"]) fun _ _ _ _ _ _ us hl => match us, hl with | [_, _], _ => rfl
  have F__law_number := fun_mk (st := s__law_number) l__law_number c__law_number k__law_number
  have b__law_number := F__law_number.binds (ps := ["_law_state_here"]) fun _ _ _ _ _ _ us hl => match us, hl with | [_], _ => rfl
  have F__law_constant := fun_mk (st := s__law_constant) l__law_constant c__law_constant k__law_constant
  have b__law_constant := F__law_constant.binds (ps := ["_law_state_here"]) fun _ _ _ _ _ _ us hl => match us, hl with | [_], _ => rfl
  have F__law_names := fun_mk (st := s__law_names) l__law_names c__law_names k__law_names
  have b__law_names := F__law_names.binds (ps := ["_law_state_here", "_law_many"]) fun _ _ _ _ _ _ us hl => match us, hl with | [_, _], _ => rfl
  have F__law_is_int := fun_mk (st := s__law_is_int) l__law_is_int c__law_is_int k__law_is_int
  have b__law_is_int := F__law_is_int.binds (ps := ["_law_thing"]) fun _ _ _ _ _ _ us hl => match us, hl with | [_], _ => rfl
  have F__law_same := fun_mk (st := s__law_same) l__law_same c__law_same k__law_same
  have b__law_same := F__law_same.binds (ps := ["_law_actual", "_law_due"]) fun _ _ _ _ _ _ us hl => match us, hl with | [_, _], _ => rfl
  have F__law_assignments := fun_mk (st := s__law_assignments) l__law_assignments c__law_assignments k__law_assignments
  have b__law_assignments := F__law_assignments.binds (ps := ["_law_state_here", "_law_fields", "_law_most"]) fun _ _ _ _ _ _ us hl => match us, hl with | [_, _, _], _ => rfl
  have F__law_changed := fun_mk (st := s__law_changed) l__law_changed c__law_changed k__law_changed
  have b__law_changed := F__law_changed.binds (ps := ["_law_rows", "_law_content"]) fun _ _ _ _ _ _ us hl => match us, hl with | [_, _], _ => rfl
  have F_Change___init__ := fun_mk (st := s_Change___init__) l_Change___init__ c_Change___init__ k_Change___init__
  have b_Change___init__ := F_Change___init__.binds (ps := ["self", "assignments"]) fun _ _ _ _ _ _ us hl => match us, hl with | [_, _], _ => rfl
  have F_Change_none := fun_mk (st := s_Change_none) l_Change_none c_Change_none k_Change_none
  have b_Change_none := F_Change_none.binds (ps := []) fun _ _ _ _ _ _ us hl => match us, hl with | [], _ => rfl
  have F_Change_adding := fun_mk (st := s_Change_adding) l_Change_adding c_Change_adding k_Change_adding
  have b_Change_adding := F_Change_adding.binds (ps := ["field", "number"]) fun _ _ _ _ _ _ us hl => match us, hl with | [_, _], _ => rfl
  have F_Change_setting := fun_mk (st := s_Change_setting) l_Change_setting c_Change_setting k_Change_setting
  have b_Change_setting := F_Change_setting.binds (ps := ["field", "number"]) fun _ _ _ _ _ _ us hl => match us, hl with | [_, _], _ => rfl
  have F_Change_assigned := fun_mk (st := s_Change_assigned) l_Change_assigned c_Change_assigned k_Change_assigned
  have b_Change_assigned := F_Change_assigned.binds (ps := ["self"]) fun _ _ _ _ _ _ us hl => match us, hl with | [_], _ => rfl
  have F_Change___rshift__ := fun_mk (st := s_Change___rshift__) l_Change___rshift__ c_Change___rshift__ k_Change___rshift__
  have b_Change___rshift__ := F_Change___rshift__.binds (ps := ["self", "other"]) fun _ _ _ _ _ _ us hl => match us, hl with | [_, _], _ => rfl
  have F__law_change := fun_mk (st := s__law_change) l__law_change c__law_change k__law_change
  have b__law_change := F__law_change.binds (ps := ["_law_rows"]) fun _ _ _ _ _ _ us hl => match us, hl with | [_], _ => rfl
  have F__law_reserved := fun_mk (st := s__law_reserved) l__law_reserved c__law_reserved k__law_reserved
  have b__law_reserved := F__law_reserved.binds (ps := []) fun _ _ _ _ _ _ us hl => match us, hl with | [], _ => rfl
  have F__law_bad_name := fun_mk (st := s__law_bad_name) l__law_bad_name c__law_bad_name k__law_bad_name
  have b__law_bad_name := F__law_bad_name.binds (ps := ["_law_state_here", "_law_name", "_law_kind"]) fun _ _ _ _ _ _ us hl => match us, hl with | [_, _, _], _ => rfl
  have F__law_bad_number := fun_mk (st := s__law_bad_number) l__law_bad_number c__law_bad_number k__law_bad_number
  have b__law_bad_number := F__law_bad_number.binds (ps := ["_law_state_here"]) fun _ _ _ _ _ _ us hl => match us, hl with | [_], _ => rfl
  have F__law_part := fun_mk (st := s__law_part) l__law_part c__law_part k__law_part
  have b__law_part := F__law_part.binds (ps := ["_law_content", "_law_code"]) fun _ _ _ _ _ _ us hl => match us, hl with | [_, _], _ => rfl
  have F_Change___call__ := fun_mk (st := s_Change___call__) l_Change___call__ c_Change___call__ k_Change___call__
  have b_Change___call__ := F_Change___call__.binds (ps := ["self", "content"]) fun _ _ _ _ _ _ us hl => match us, hl with | [_, _], _ => rfl
  have F__law_ask := fun_mk (st := s__law_ask) l__law_ask c__law_ask k__law_ask
  have b__law_ask := F__law_ask.binds (ps := ["_law_made_here", "_law_content"]) fun _ _ _ _ _ _ us hl => match us, hl with | [_, _], _ => rfl
  have F__law_acts := fun_mk (st := s__law_acts) l__law_acts c__law_acts k__law_acts
  have b__law_acts := F__law_acts.binds (ps := ["_law_made_here", "_law_rows", "_law_content"]) fun _ _ _ _ _ _ us hl => match us, hl with | [_, _, _], _ => rfl
  have F__law_made := fun_mk (st := s__law_made) l__law_made c__law_made k__law_made
  have b__law_made := F__law_made.binds (ps := ["_law_word", "_law_field", "_law_number_here"]) fun _ _ _ _ _ _ us hl => match us, hl with | [_, _, _], _ => rfl
  have F__law_refused := fun_mk (st := s__law_refused) l__law_refused c__law_refused k__law_refused
  have b__law_refused := F__law_refused.binds (ps := ["_law_state_here", "_law_name", "_law_number_here", "_law_kind"]) fun _ _ _ _ _ _ us hl => match us, hl with | [_, _, _, _], _ => rfl
  have F_Change___len__ := fun_mk (st := s_Change___len__) l_Change___len__ c_Change___len__ k_Change___len__
  have b_Change___len__ := F_Change___len__.binds (ps := ["self"]) fun _ _ _ _ _ _ us hl => match us, hl with | [_], _ => rfl
  have F__law_is := fun_mk (st := s__law_is) l__law_is c__law_is k__law_is
  have b__law_is := F__law_is.binds (ps := ["_law_made_here", "_law_rows"]) fun _ _ _ _ _ _ us hl => match us, hl with | [_, _], _ => rfl
  have F_law := fun_mk (st := s_law) l_law c_law k_law
  have b_law := F_law.binds (ps := ["_law_script"]) fun _ _ _ _ _ _ us hl => match us, hl with | [_], _ => rfl
  refine ⟨PySem.W.fnOf "law" "law" (defArgs s_law) (defBody s_law) (defScope s_law) .none kV_law dc_law pm_law an_law cd_law ct_law, fun s v => .of_eq rfl, fun base _ _ => ?_⟩
  have C_BadName : CalE l.prog w K mg base 1 "BadName" a_BadName f_BadName _ ["self", "name"] okx_BadName fs_BadName ["name"] := ⟨ok_BadName XK_BadName lf_BadName cd_BadName lc_BadName v2_BadName fe_BadName lcc_BadName hD_BadName (PySem.W.mg_none_of X G z_super) st_any htop, .all fun us hl => (match us, hl with | [_, _], _ => rfl), XK_BadName, PySem.W.mg_of X G g_BadName⟩
  have C_BadNumber : CalE l.prog w K mg base 1 "BadNumber" a_BadNumber f_BadNumber _ ["self", "value"] okx_BadNumber fs_BadNumber ["value"] := ⟨ok_BadNumber XK_BadNumber lf_BadNumber cd_BadNumber lc_BadNumber v2_BadNumber fe_BadNumber lcc_BadNumber hD_BadNumber (PySem.W.mg_none_of X G z_super) st_any htop, .all fun us hl => (match us, hl with | [_, _], _ => rfl), XK_BadNumber, PySem.W.mg_of X G g_BadNumber⟩
  have C_TooLarge : CalE l.prog w K mg base 1 "TooLarge" a_TooLarge f_TooLarge _ ["self", "most"] okx_TooLarge fs_TooLarge ["most"] := ⟨ok_TooLarge XK_TooLarge lf_TooLarge cd_TooLarge lc_TooLarge v2_TooLarge fe_TooLarge lcc_TooLarge hD_TooLarge (PySem.W.mg_none_of X G z_super) st_any htop, .all fun us hl => (match us, hl with | [_, _], _ => rfl), XK_TooLarge, PySem.W.mg_of X G g_TooLarge⟩
  have C_UnknownField : CalEI l.prog w K mg base 1 "UnknownField" a_UnknownField f_UnknownField _ ["self", "name"] okx_UnknownField fs_UnknownField ["name"] := ⟨ok_UnknownField XK_UnknownField lf_UnknownField cd_UnknownField lc_UnknownField v2_UnknownField fe_UnknownField lcc_UnknownField hD_UnknownField (PySem.W.mg_none_of X G z_super) st_any htop, .all fun us hl => (match us, hl with | [_, _], _ => rfl), ⟨_, XK_UnknownField⟩, PySem.W.mg_of X G g_UnknownField⟩
  have C_is_name : Cal l.prog w K mg base CX0 1 "is_name" f_is_name _ ["text"] (sp_is_name K) := ⟨ok_is_name F_is_name T, b_is_name, k_is_name, PySem.W.mg_of X G a_is_name⟩
  have C_in_bound : Cal l.prog w K mg base CX0 1 "in_bound" f_in_bound _ ["value"] (sp_in_bound K) := ⟨ok_in_bound F_in_bound T, b_in_bound, k_in_bound, PySem.W.mg_of X G a_in_bound⟩
  have C_check_name : Cal l.prog w K mg base (L2.CX l.prog w) 3 "check_name" f_check_name _ ["text"] (sp_check_name K) := ⟨ok_check_name F_check_name T C_is_name C_BadName, b_check_name, k_check_name, PySem.W.mg_of X G a_check_name⟩
  have C_check_number : Cal l.prog w K mg base (L2.CX l.prog w) 3 "check_number" f_check_number _ ["value"] (sp_check_number K) := ⟨ok_check_number F_check_number T C_in_bound C_BadNumber, b_check_number, k_check_number, PySem.W.mg_of X G a_check_number⟩
  have C_followed : Cal l.prog w K mg base CX0 1 "followed" f_followed _ ["assignment", "later"] (sp_followed K) := ⟨ok_followed F_followed T, b_followed, k_followed, PySem.W.mg_of X G a_followed⟩
  have C__law_state : Cal l.prog w K mg base CX0 1 "_law_state" f__law_state _ ["_law_script"] (sp__law_state K) := ⟨ok__law_state F__law_state T, b__law_state, k__law_state, PySem.W.mg_of X G a__law_state⟩
  have C__law_draw : Cal l.prog w K mg base CX0 1 "_law_draw" f__law_draw _ ["_law_state_here", "_law_many"] (sp__law_draw K) := ⟨ok__law_draw F__law_draw T, b__law_draw, k__law_draw, PySem.W.mg_of X G a__law_draw⟩
  have C__law_pick : Cal l.prog w K mg base CX0 2 "_law_pick" f__law_pick _ ["_law_state_here", "_law_row"] (sp__law_pick K) := ⟨ok__law_pick F__law_pick T C__law_draw, b__law_pick, k__law_pick, PySem.W.mg_of X G a__law_pick⟩
  have C__law_mixed : Cal l.prog w K mg base CX0 2 "_law_mixed" f__law_mixed _ ["_law_state_here", "_law_row"] (sp__law_mixed K) := ⟨ok__law_mixed F__law_mixed T C__law_draw, b__law_mixed, k__law_mixed, PySem.W.mg_of X G a__law_mixed⟩
  have C__law_number : Cal l.prog w K mg base CX0 2 "_law_number" f__law_number _ ["_law_state_here"] (sp__law_number K) := ⟨ok__law_number F__law_number T C__law_draw, b__law_number, k__law_number, PySem.W.mg_of X G a__law_number⟩
  have C__law_constant : Cal l.prog w K mg base CX0 3 "_law_constant" f__law_constant _ ["_law_state_here"] (sp__law_constant K) := ⟨ok__law_constant F__law_constant T C__law_number C__law_draw, b__law_constant, k__law_constant, PySem.W.mg_of X G a__law_constant⟩
  have C__law_names : Cal l.prog w K mg base CX0 2 "_law_names" f__law_names _ ["_law_state_here", "_law_many"] (sp__law_names K) := ⟨ok__law_names F__law_names T C__law_draw, b__law_names, k__law_names, PySem.W.mg_of X G a__law_names⟩
  have C__law_is_int : Cal l.prog w K mg base CX0 1 "_law_is_int" f__law_is_int _ ["_law_thing"] (sp__law_is_int K) := ⟨ok__law_is_int F__law_is_int T, b__law_is_int, k__law_is_int, PySem.W.mg_of X G a__law_is_int⟩
  have C__law_same : Cal l.prog w K mg base CX0 6 "_law_same" f__law_same _ ["_law_actual", "_law_due"] (sp__law_same K) := ⟨ok__law_same F__law_same T C__law_is_int b__law_same k__law_same (PySem.W.mg_of X G a__law_same), b__law_same, k__law_same, PySem.W.mg_of X G a__law_same⟩
  have C__law_assignments : Cal l.prog w K mg base CX0 4 "_law_assignments" f__law_assignments _ ["_law_state_here", "_law_fields", "_law_most"] (sp__law_assignments K) := ⟨ok__law_assignments F__law_assignments T C__law_draw C__law_pick C__law_constant, b__law_assignments, k__law_assignments, PySem.W.mg_of X G a__law_assignments⟩
  have C__law_changed : Cal l.prog w K mg base CX0 1 "_law_changed" f__law_changed _ ["_law_rows", "_law_content"] (sp__law_changed K) := ⟨ok__law_changed F__law_changed T, b__law_changed, k__law_changed, PySem.W.mg_of X G a__law_changed⟩
  have C_Change___init__ : CalI l.prog w K mg base CX0 1 "Change" a_Change f_Change___init__ _ ["self", "assignments"] (sp_Change___init__ K) := ⟨⟨ok_Change___init__ F_Change___init__ T, b_Change___init__⟩, ⟨mi_Change, fa_Change___init__, fn_Change___init__, ko_Change⟩, PySem.W.mg_of X G g_Change⟩
  have C_Change_none : CalS l.prog w K mg base CX0 3 a_Change p_Change_none "none" f_Change_none _ [] (sp_Change_none K) := ⟨⟨ok_Change_none F_Change_none T C_Change___init__, b_Change_none⟩, ⟨rr_Change, rg_Change⟩, ⟨sg_Change_none, ⟨_, sr_Change_none⟩, k_Change_none⟩⟩
  have C_Change_adding : CalS l.prog w K mg base (L2.CX l.prog w) 4 a_Change p_Change_adding "adding" f_Change_adding _ ["field", "number"] (sp_Change_adding K) := ⟨⟨ok_Change_adding F_Change_adding T C_check_name C_check_number C_Change___init__, b_Change_adding⟩, ⟨rr_Change, rg_Change⟩, ⟨sg_Change_adding, ⟨_, sr_Change_adding⟩, k_Change_adding⟩⟩
  have C_Change_setting : CalS l.prog w K mg base (L2.CX l.prog w) 4 a_Change p_Change_setting "setting" f_Change_setting _ ["field", "number"] (sp_Change_setting K) := ⟨⟨ok_Change_setting F_Change_setting T C_check_name C_check_number C_Change___init__, b_Change_setting⟩, ⟨rr_Change, rg_Change⟩, ⟨sg_Change_setting, ⟨_, sr_Change_setting⟩, k_Change_setting⟩⟩
  have C_Change_assigned : CalP l.prog w K mg base CX0 1 a_Change p_Change_assigned "assigned" f_Change_assigned _ ["self"] (sp_Change_assigned K) := ⟨⟨ok_Change_assigned F_Change_assigned T, b_Change_assigned⟩, ⟨pg_Change, hx_Change, po_Change, st_Change⟩, ⟨pa_Change_assigned, ps_Change_assigned, pt_Change_assigned, ⟨_, pr_Change_assigned⟩⟩⟩
  have C_Change___rshift__ : CalO l.prog w K mg base (L2.CX l.prog w) 3 a_Change .RShift f_Change___rshift__ _ ["self", "other"] (sp_Change___rshift__ K) := ⟨⟨ok_Change___rshift__ F_Change___rshift__ T C_followed C_Change___init__ C_Change_assigned C_TooLarge, b_Change___rshift__⟩, ⟨sf_Change, fa_Change___rshift__, fn_Change___rshift__⟩⟩
  have C__law_change : Cal l.prog w K mg base CX0 5 "_law_change" f__law_change _ ["_law_rows"] (sp__law_change K) := ⟨ok__law_change F__law_change T C_Change_none C_Change_adding C_Change_setting C_Change___rshift__, b__law_change, k__law_change, PySem.W.mg_of X G a__law_change⟩
  have C__law_reserved : Cal l.prog w K mg base CX0 1 "_law_reserved" f__law_reserved _ [] (sp__law_reserved K) := ⟨ok__law_reserved F__law_reserved T, b__law_reserved, k__law_reserved, PySem.W.mg_of X G a__law_reserved⟩
  have C__law_bad_name : Cal l.prog w K mg base CX0 3 "_law_bad_name" f__law_bad_name _ ["_law_state_here", "_law_name", "_law_kind"] (sp__law_bad_name K) := ⟨ok__law_bad_name F__law_bad_name T C__law_pick C__law_draw C__law_reserved, b__law_bad_name, k__law_bad_name, PySem.W.mg_of X G a__law_bad_name⟩
  have C__law_bad_number : Cal l.prog w K mg base CX0 2 "_law_bad_number" f__law_bad_number _ ["_law_state_here"] (sp__law_bad_number K) := ⟨ok__law_bad_number F__law_bad_number T C__law_draw, b__law_bad_number, k__law_bad_number, PySem.W.mg_of X G a__law_bad_number⟩
  have C__law_part : Cal l.prog w K mg base CX0 1 "_law_part" f__law_part _ ["_law_content", "_law_code"] (sp__law_part K) := ⟨ok__law_part F__law_part T, b__law_part, k__law_part, PySem.W.mg_of X G a__law_part⟩
  have C_Change___call__ : CalC l.prog w K mg base (L2.CX l.prog w) 3 a_Change f_Change___call__ _ ["self", "content"] (sp_Change___call__ K) := ⟨⟨ok_Change___call__ F_Change___call__ T C_Change_assigned C_UnknownField, b_Change___call__⟩, ⟨fa_Change___call__, fn_Change___call__, fi_Change___call__⟩⟩
  have C__law_ask : Cal l.prog w K mg base CX0 4 "_law_ask" f__law_ask _ ["_law_made_here", "_law_content"] (sp__law_ask K) := ⟨ok__law_ask F__law_ask T C_Change___call__, b__law_ask, k__law_ask, PySem.W.mg_of X G a__law_ask⟩
  have C__law_acts : Cal l.prog w K mg base CX0 9 "_law_acts" f__law_acts _ ["_law_made_here", "_law_rows", "_law_content"] (sp__law_acts K) := ⟨ok__law_acts F__law_acts T C__law_ask C__law_same C__law_changed, b__law_acts, k__law_acts, PySem.W.mg_of X G a__law_acts⟩
  have C__law_made : Cal l.prog w K mg base CX0 5 "_law_made" f__law_made _ ["_law_word", "_law_field", "_law_number_here"] (sp__law_made K) := ⟨ok__law_made F__law_made T C_Change_setting C_Change_adding, b__law_made, k__law_made, PySem.W.mg_of X G a__law_made⟩
  have C__law_refused : Cal l.prog w K mg base CX0 9 "_law_refused" f__law_refused _ ["_law_state_here", "_law_name", "_law_number_here", "_law_kind"] (sp__law_refused K) := ⟨ok__law_refused F__law_refused T C__law_bad_name C__law_bad_number C__law_same C__law_made, b__law_refused, k__law_refused, PySem.W.mg_of X G a__law_refused⟩
  have C_Change___len__ : CalL l.prog w K mg base CX0 1 a_Change f_Change___len__ _ ["self"] (sp_Change___len__ K) := ⟨⟨ok_Change___len__ F_Change___len__ T, b_Change___len__⟩, ⟨fa_Change___len__, fn_Change___len__⟩⟩
  have C__law_is : Cal l.prog w K mg base CX0 9 "_law_is" f__law_is _ ["_law_made_here", "_law_rows"] (sp__law_is K) := ⟨ok__law_is F__law_is T C__law_same C_Change_assigned C_Change___len__, b__law_is, k__law_is, PySem.W.mg_of X G a__law_is⟩
  exact ok_law F_law T C__law_state C__law_names C__law_assignments C__law_mixed C__law_change C__law_same C__law_number C__law_part C__law_is C__law_refused C__law_acts C_Change_none
theorem walk {l : PySem.W.OpenLaw} {q : Program} {loose : List Str} {XP : (Str → Option Value) → Heap → Prop} {YP : World → Heap → Prop} {d : DefRec} {K : Params → PySem.W.Frag} (hn : l.most = some 63) (hdf : d.params.defaults = [])
    (hY : ∀ (w : World) (h : Heap), YP w h → (K w.params).In h)
    (F : ∀ (w : World) (mg : Str → Option Value) (fa : Addr) (h : Heap), (K w.params).In h → h.Ns mainGlobals mg → mg d.name = some (.ref fa) →
      ∃ fd : FuncData, (∀ (s : Shared) (u : Value), BindsTo s fd ⟨[u], []⟩ [("_law_script", u)]) ∧ ∀ base : Heap, (K w.params).In base → base.Ns mainGlobals mg → FnOk l.prog w (K w.params) mg base CX0 12 fa fd ["_law_script"] (spLaw (K w.params))) :
    PySem.W.WalkO q loose XP YP l.row.toRowW d [] (fun f vs => PySem.call f vs) :=
  L2.walk_of (n := 63) (k := 12) (x := "_law_script") (CX := fun _ => CX0) (sp := fun w => spLaw (K w.params)) hn (by decide) hdf ⟨rfl, by decide, by decide⟩ hY F (fun _ _ a ns hl _ hS => ⟨a, ns, rfl, hS, hl, fun _ => rfl⟩) fun _ _ _ _ _ z => z
end K11
open PySem PySem.W PyProof.Rows
set_option maxRecDepth 100000 in
set_option maxHeartbeats 0 in
theorem PySem.Challenge.cw_elseput_k11_change_of_content_holds : PySem.Challenge.rw_elseput_k11_change_of_content.Holds := by
  w_on; o_law; k_head; (case hw => w_witness2)
  k_fill
  refine K11.walk (l := PySem.Challenge.rw_elseput_k11_change_of_content) rfl rfl (fun w h Y => PySem.W.kIn_of Y) ?F
  case F =>
    intro w mg fa h KX G hmg
    refine' K11.all_mk KX G hmg ?g_Change ?pg_Change ?hx_Change ?po_Change ?st_Change ?rr_Change ?rg_Change ?mi_Change ?ko_Change ?sf_Change ?na_Change_assignments ?cv_Change_MOST ?a_is_name ?l_is_name ?c_is_name ?k_is_name ?a_in_bound ?l_in_bound ?c_in_bound ?k_in_bound ?a_check_name ?l_check_name ?c_check_name ?k_check_name ?a_check_number ?l_check_number ?c_check_number ?k_check_number ?a_followed ?l_followed ?c_followed ?k_followed ?a__law_state ?l__law_state ?c__law_state ?k__law_state ?a__law_draw ?l__law_draw ?c__law_draw ?k__law_draw ?a__law_pick ?l__law_pick ?c__law_pick ?k__law_pick ?a__law_mixed ?l__law_mixed ?c__law_mixed ?k__law_mixed ?a__law_number ?l__law_number ?c__law_number ?k__law_number ?a__law_constant ?l__law_constant ?c__law_constant ?k__law_constant ?a__law_names ?l__law_names ?c__law_names ?k__law_names ?a__law_is_int ?l__law_is_int ?c__law_is_int ?k__law_is_int ?a__law_same ?l__law_same ?c__law_same ?k__law_same ?a__law_assignments ?l__law_assignments ?c__law_assignments ?k__law_assignments ?a__law_changed ?l__law_changed ?c__law_changed ?k__law_changed ?fa_Change___init__ ?fn_Change___init__ ?l_Change___init__ ?c_Change___init__ ?k_Change___init__ ?sg_Change_none ?sr_Change_none ?l_Change_none ?c_Change_none ?k_Change_none ?sg_Change_adding ?sr_Change_adding ?l_Change_adding ?c_Change_adding ?k_Change_adding ?sg_Change_setting ?sr_Change_setting ?l_Change_setting ?c_Change_setting ?k_Change_setting ?pa_Change_assigned ?ps_Change_assigned ?pt_Change_assigned ?pr_Change_assigned ?l_Change_assigned ?c_Change_assigned ?k_Change_assigned ?fa_Change___rshift__ ?fn_Change___rshift__ ?l_Change___rshift__ ?c_Change___rshift__ ?k_Change___rshift__ ?a__law_change ?l__law_change ?c__law_change ?k__law_change ?a__law_reserved ?l__law_reserved ?c__law_reserved ?k__law_reserved ?a__law_bad_name ?l__law_bad_name ?c__law_bad_name ?k__law_bad_name ?a__law_bad_number ?l__law_bad_number ?c__law_bad_number ?k__law_bad_number ?a__law_part ?l__law_part ?c__law_part ?k__law_part ?fa_Change___call__ ?fn_Change___call__ ?fi_Change___call__ ?l_Change___call__ ?c_Change___call__ ?k_Change___call__ ?a__law_ask ?l__law_ask ?c__law_ask ?k__law_ask ?a__law_acts ?l__law_acts ?c__law_acts ?k__law_acts ?a__law_made ?l__law_made ?c__law_made ?k__law_made ?a__law_refused ?l__law_refused ?c__law_refused ?k__law_refused ?fa_Change___len__ ?fn_Change___len__ ?l_Change___len__ ?c_Change___len__ ?k_Change___len__ ?a__law_is ?l__law_is ?c__law_is ?k__law_is ?a_law ?l_law ?c_law ?k_law ?z_ValueError ?z_all ?z_bool ?z_dict ?z_int ?z_isinstance ?z_len ?z_list ?z_min ?z_property ?z_range ?z_staticmethod ?z_str ?z_super ?z_tuple ?g_BOUND ?g_LETTERS ?g_LONGEST_NAME ?g_RESERVED ?l_RESERVED ?v_RESERVED ?g_BadName ?g_BadNumber ?g_ElseputError ?g_TooLarge ?g_UnknownField ?g_UnknownKey ?g_UnknownName ?g_UnknownShape ?st_any ?htop ?xc_BadName ?ref_BadName ?sa_BadName ?eb_BadName ?ty_BadName ?kC_BadName ?iC_BadName ?tI_BadName ?sup_BadName ?sv_BadName ?mro_BadName ?no0_BadName ?ga_BadName ?gg_BadName ?hd_BadName ?hcl_BadName ?hn_BadName ?ht_BadName ?hm_BadName ?lf_BadName ?cd_BadName ?lc_BadName ?v2_BadName ?fe_BadName ?lcc_BadName ?hD_BadName ?xc_BadNumber ?ref_BadNumber ?sa_BadNumber ?eb_BadNumber ?ty_BadNumber ?kC_BadNumber ?iC_BadNumber ?tI_BadNumber ?sup_BadNumber ?sv_BadNumber ?mro_BadNumber ?no0_BadNumber ?ga_BadNumber ?gg_BadNumber ?hd_BadNumber ?hcl_BadNumber ?hn_BadNumber ?ht_BadNumber ?hm_BadNumber ?lf_BadNumber ?cd_BadNumber ?lc_BadNumber ?v2_BadNumber ?fe_BadNumber ?lcc_BadNumber ?hD_BadNumber ?xc_TooLarge ?ref_TooLarge ?sa_TooLarge ?eb_TooLarge ?ty_TooLarge ?kC_TooLarge ?iC_TooLarge ?tI_TooLarge ?sup_TooLarge ?sv_TooLarge ?mro_TooLarge ?no0_TooLarge ?ga_TooLarge ?gg_TooLarge ?hd_TooLarge ?hcl_TooLarge ?hn_TooLarge ?ht_TooLarge ?hm_TooLarge ?lf_TooLarge ?cd_TooLarge ?lc_TooLarge ?v2_TooLarge ?fe_TooLarge ?lcc_TooLarge ?hD_TooLarge ?xc_UnknownName ?ref_UnknownName ?sa_UnknownName ?eb_UnknownName ?ty_UnknownName ?kC_UnknownName ?iC_UnknownName ?tI_UnknownName ?sup_UnknownName ?sv_UnknownName ?mro_UnknownName ?no0_UnknownName ?ga_UnknownName ?gg_UnknownName ?hd_UnknownName ?hcl_UnknownName ?hn_UnknownName ?ht_UnknownName ?hm_UnknownName ?lf_UnknownName ?cd_UnknownName ?lc_UnknownName ?v2_UnknownName ?fe_UnknownName ?lcc_UnknownName ?hD_UnknownName ?xc_UnknownField ?ref_UnknownField ?sa_UnknownField ?eb_UnknownField ?ty_UnknownField ?kC_UnknownField ?iC_UnknownField ?tI_UnknownField ?sv_UnknownField ?no0_UnknownField ?ga_UnknownField ?gg_UnknownField ?hd_UnknownField ?hcl_UnknownField ?hn_UnknownField ?ht_UnknownField ?hm_UnknownField ?lf_UnknownField ?cd_UnknownField ?lc_UnknownField ?v2_UnknownField ?fe_UnknownField ?lcc_UnknownField ?sup_UnknownField ?mro_UnknownField ?hD_UnknownField ?mb_ElseputError ?md_ElseputError ?mt_ElseputError ?ms_BadName_ElseputError ?ms_BadNumber_ElseputError ?ms_TooLarge_ElseputError ?ms_UnknownField_ElseputError ?kit_BadName_UnknownField ?kit_BadName_UnknownName ?kit_BadName_ValueError ?kit_BadName_UnknownKey ?kit_BadName_UnknownShape ?kit_BadName_BadName ?kit_BadName_BadNumber ?kit_BadNumber_UnknownField ?kit_BadNumber_UnknownName ?kit_BadNumber_ValueError ?kit_BadNumber_UnknownKey ?kit_BadNumber_UnknownShape ?kit_BadNumber_BadName ?kit_BadNumber_BadNumber ?kit_TooLarge_UnknownField ?kit_TooLarge_UnknownName ?kit_TooLarge_ValueError ?kit_TooLarge_UnknownKey ?kit_TooLarge_UnknownShape ?kit_TooLarge_BadName ?kit_TooLarge_BadNumber ?kit_UnknownField_UnknownField ?kit_UnknownField_UnknownName ?kit_UnknownField_ValueError ?kit_UnknownField_UnknownKey ?kit_UnknownField_UnknownShape ?kit_UnknownField_BadName ?kit_UnknownField_BadNumber
    (case g_Change => k_is)
    (case pg_Change => k_is)
    (case hx_Change => k_is)
    (case po_Change => k_is)
    (case st_Change => k_is)
    (case rr_Change => k_is)
    (case rg_Change => k_is)
    (case mi_Change => k_is)
    (case ko_Change => k_is)
    (case sf_Change => k_is)
    (case na_Change_assignments => k_is)
    (case cv_Change_MOST => k_is)
    (case a_is_name => k_is)
    (case l_is_name => k_is)
    (case c_is_name => k_is)
    (case k_is_name => k_is)
    (case a_in_bound => k_is)
    (case l_in_bound => k_is)
    (case c_in_bound => k_is)
    (case k_in_bound => k_is)
    (case a_check_name => k_is)
    (case l_check_name => k_is)
    (case c_check_name => k_is)
    (case k_check_name => k_is)
    (case a_check_number => k_is)
    (case l_check_number => k_is)
    (case c_check_number => k_is)
    (case k_check_number => k_is)
    (case a_followed => k_is)
    (case l_followed => k_is)
    (case c_followed => k_is)
    (case k_followed => k_is)
    (case a__law_state => k_is)
    (case l__law_state => k_is)
    (case c__law_state => k_is)
    (case k__law_state => k_is)
    (case a__law_draw => k_is)
    (case l__law_draw => k_is)
    (case c__law_draw => k_is)
    (case k__law_draw => k_is)
    (case a__law_pick => k_is)
    (case l__law_pick => k_is)
    (case c__law_pick => k_is)
    (case k__law_pick => k_is)
    (case a__law_mixed => k_is)
    (case l__law_mixed => k_is)
    (case c__law_mixed => k_is)
    (case k__law_mixed => k_is)
    (case a__law_number => k_is)
    (case l__law_number => k_is)
    (case c__law_number => k_is)
    (case k__law_number => k_is)
    (case a__law_constant => k_is)
    (case l__law_constant => k_is)
    (case c__law_constant => k_is)
    (case k__law_constant => k_is)
    (case a__law_names => k_is)
    (case l__law_names => k_is)
    (case c__law_names => k_is)
    (case k__law_names => k_is)
    (case a__law_is_int => k_is)
    (case l__law_is_int => k_is)
    (case c__law_is_int => k_is)
    (case k__law_is_int => k_is)
    (case a__law_same => k_is)
    (case l__law_same => k_is)
    (case c__law_same => k_is)
    (case k__law_same => k_is)
    (case a__law_assignments => k_is)
    (case l__law_assignments => k_is)
    (case c__law_assignments => k_is)
    (case k__law_assignments => k_is)
    (case a__law_changed => k_is)
    (case l__law_changed => k_is)
    (case c__law_changed => k_is)
    (case k__law_changed => k_is)
    (case fa_Change___init__ => k_is)
    (case fn_Change___init__ => k_is)
    (case l_Change___init__ => k_is)
    (case c_Change___init__ => k_is)
    (case k_Change___init__ => k_is)
    (case sg_Change_none => k_is)
    (case sr_Change_none => k_is)
    (case l_Change_none => k_is)
    (case c_Change_none => k_is)
    (case k_Change_none => k_is)
    (case sg_Change_adding => k_is)
    (case sr_Change_adding => k_is)
    (case l_Change_adding => k_is)
    (case c_Change_adding => k_is)
    (case k_Change_adding => k_is)
    (case sg_Change_setting => k_is)
    (case sr_Change_setting => k_is)
    (case l_Change_setting => k_is)
    (case c_Change_setting => k_is)
    (case k_Change_setting => k_is)
    (case pa_Change_assigned => k_is)
    (case ps_Change_assigned => k_is)
    (case pt_Change_assigned => k_is)
    (case pr_Change_assigned => k_is)
    (case l_Change_assigned => k_is)
    (case c_Change_assigned => k_is)
    (case k_Change_assigned => k_is)
    (case fa_Change___rshift__ => k_is)
    (case fn_Change___rshift__ => k_is)
    (case l_Change___rshift__ => k_is)
    (case c_Change___rshift__ => k_is)
    (case k_Change___rshift__ => k_is)
    (case a__law_change => k_is)
    (case l__law_change => k_is)
    (case c__law_change => k_is)
    (case k__law_change => k_is)
    (case a__law_reserved => k_is)
    (case l__law_reserved => k_is)
    (case c__law_reserved => k_is)
    (case k__law_reserved => k_is)
    (case a__law_bad_name => k_is)
    (case l__law_bad_name => k_is)
    (case c__law_bad_name => k_is)
    (case k__law_bad_name => k_is)
    (case a__law_bad_number => k_is)
    (case l__law_bad_number => k_is)
    (case c__law_bad_number => k_is)
    (case k__law_bad_number => k_is)
    (case a__law_part => k_is)
    (case l__law_part => k_is)
    (case c__law_part => k_is)
    (case k__law_part => k_is)
    (case fa_Change___call__ => k_is)
    (case fn_Change___call__ => k_is)
    (case fi_Change___call__ => k_is)
    (case l_Change___call__ => k_is)
    (case c_Change___call__ => k_is)
    (case k_Change___call__ => k_is)
    (case a__law_ask => k_is)
    (case l__law_ask => k_is)
    (case c__law_ask => k_is)
    (case k__law_ask => k_is)
    (case a__law_acts => k_is)
    (case l__law_acts => k_is)
    (case c__law_acts => k_is)
    (case k__law_acts => k_is)
    (case a__law_made => k_is)
    (case l__law_made => k_is)
    (case c__law_made => k_is)
    (case k__law_made => k_is)
    (case a__law_refused => k_is)
    (case l__law_refused => k_is)
    (case c__law_refused => k_is)
    (case k__law_refused => k_is)
    (case fa_Change___len__ => k_is)
    (case fn_Change___len__ => k_is)
    (case l_Change___len__ => k_is)
    (case c_Change___len__ => k_is)
    (case k_Change___len__ => k_is)
    (case a__law_is => k_is)
    (case l__law_is => k_is)
    (case c__law_is => k_is)
    (case k__law_is => k_is)
    (case a_law => k_is)
    (case l_law => k_is)
    (case c_law => k_is)
    (case k_law => k_is)
    (case z_ValueError => k_is)
    (case z_all => k_is)
    (case z_bool => k_is)
    (case z_dict => k_is)
    (case z_int => k_is)
    (case z_isinstance => k_is)
    (case z_len => k_is)
    (case z_list => k_is)
    (case z_min => k_is)
    (case z_property => k_is)
    (case z_range => k_is)
    (case z_staticmethod => k_is)
    (case z_str => k_is)
    (case z_super => k_is)
    (case z_tuple => k_is)
    (case g_BOUND => k_is)
    (case g_LETTERS => k_is)
    (case g_LONGEST_NAME => k_is)
    (case g_RESERVED => k_is)
    (case l_RESERVED => k_is)
    (case v_RESERVED => (repeat' first | exact .nil | refine .cons ⟨_, rfl⟩ ?_))
    (case g_BadName => k_is)
    (case g_BadNumber => k_is)
    (case g_ElseputError => k_is)
    (case g_TooLarge => k_is)
    (case g_UnknownField => k_is)
    (case g_UnknownKey => k_is)
    (case g_UnknownName => k_is)
    (case g_UnknownShape => k_is)
    (case st_any => k_is)
    (case htop => first | rfl | decide +kernel | k_is)
    (case xc_BadName => k_is)
    (case ref_BadName => first | rfl | decide +kernel | k_is)
    (case sa_BadName => k_is)
    (case eb_BadName => k_is)
    (case ty_BadName => k_is)
    (case kC_BadName => k_is)
    (case iC_BadName => k_is)
    (case tI_BadName => k_is)
    (case sup_BadName => ks_is)
    (case sv_BadName => k_is)
    (case mro_BadName => k_is)
    (case no0_BadName => k_is)
    (case ga_BadName => k_is)
    (case gg_BadName => k_is)
    (case hd_BadName => k_is)
    (case hcl_BadName => k_is)
    (case hn_BadName => k_is)
    (case ht_BadName => k_is)
    (case hm_BadName => k_is)
    (case lf_BadName => k_is)
    (case cd_BadName => k_is)
    (case lc_BadName => k_is)
    (case v2_BadName => first | rfl | decide +kernel | k_is)
    (case fe_BadName => first | rfl | decide +kernel | k_is)
    (case lcc_BadName => k_is)
    (case hD_BadName => k_is)
    (case xc_BadNumber => k_is)
    (case ref_BadNumber => first | rfl | decide +kernel | k_is)
    (case sa_BadNumber => k_is)
    (case eb_BadNumber => k_is)
    (case ty_BadNumber => k_is)
    (case kC_BadNumber => k_is)
    (case iC_BadNumber => k_is)
    (case tI_BadNumber => k_is)
    (case sup_BadNumber => ks_is)
    (case sv_BadNumber => k_is)
    (case mro_BadNumber => k_is)
    (case no0_BadNumber => k_is)
    (case ga_BadNumber => k_is)
    (case gg_BadNumber => k_is)
    (case hd_BadNumber => k_is)
    (case hcl_BadNumber => k_is)
    (case hn_BadNumber => k_is)
    (case ht_BadNumber => k_is)
    (case hm_BadNumber => k_is)
    (case lf_BadNumber => k_is)
    (case cd_BadNumber => k_is)
    (case lc_BadNumber => k_is)
    (case v2_BadNumber => first | rfl | decide +kernel | k_is)
    (case fe_BadNumber => first | rfl | decide +kernel | k_is)
    (case lcc_BadNumber => k_is)
    (case hD_BadNumber => k_is)
    (case xc_TooLarge => k_is)
    (case ref_TooLarge => first | rfl | decide +kernel | k_is)
    (case sa_TooLarge => k_is)
    (case eb_TooLarge => k_is)
    (case ty_TooLarge => k_is)
    (case kC_TooLarge => k_is)
    (case iC_TooLarge => k_is)
    (case tI_TooLarge => k_is)
    (case sup_TooLarge => ks_is)
    (case sv_TooLarge => k_is)
    (case mro_TooLarge => k_is)
    (case no0_TooLarge => k_is)
    (case ga_TooLarge => k_is)
    (case gg_TooLarge => k_is)
    (case hd_TooLarge => k_is)
    (case hcl_TooLarge => k_is)
    (case hn_TooLarge => k_is)
    (case ht_TooLarge => k_is)
    (case hm_TooLarge => k_is)
    (case lf_TooLarge => k_is)
    (case cd_TooLarge => k_is)
    (case lc_TooLarge => k_is)
    (case v2_TooLarge => first | rfl | decide +kernel | k_is)
    (case fe_TooLarge => first | rfl | decide +kernel | k_is)
    (case lcc_TooLarge => k_is)
    (case hD_TooLarge => k_is)
    (case xc_UnknownName => k_is)
    (case ref_UnknownName => first | rfl | decide +kernel | k_is)
    (case sa_UnknownName => k_is)
    (case eb_UnknownName => k_is)
    (case ty_UnknownName => k_is)
    (case kC_UnknownName => k_is)
    (case iC_UnknownName => k_is)
    (case tI_UnknownName => k_is)
    (case sup_UnknownName => ks_is)
    (case sv_UnknownName => k_is)
    (case mro_UnknownName => k_is)
    (case no0_UnknownName => k_is)
    (case ga_UnknownName => k_is)
    (case gg_UnknownName => k_is)
    (case hd_UnknownName => k_is)
    (case hcl_UnknownName => k_is)
    (case hn_UnknownName => k_is)
    (case ht_UnknownName => k_is)
    (case hm_UnknownName => k_is)
    (case lf_UnknownName => k_is)
    (case cd_UnknownName => k_is)
    (case lc_UnknownName => k_is)
    (case v2_UnknownName => first | rfl | decide +kernel | k_is)
    (case fe_UnknownName => first | rfl | decide +kernel | k_is)
    (case lcc_UnknownName => k_is)
    (case hD_UnknownName => k_is)
    (case xc_UnknownField => k_is)
    (case ref_UnknownField => first | rfl | decide +kernel | k_is)
    (case sa_UnknownField => k_is)
    (case eb_UnknownField => k_is)
    (case ty_UnknownField => k_is)
    (case kC_UnknownField => k_is)
    (case iC_UnknownField => k_is)
    (case tI_UnknownField => k_is)
    (case sv_UnknownField => k_is)
    (case no0_UnknownField => k_is)
    (case ga_UnknownField => k_is)
    (case gg_UnknownField => k_is)
    (case hd_UnknownField => k_is)
    (case hcl_UnknownField => k_is)
    (case hn_UnknownField => k_is)
    (case ht_UnknownField => k_is)
    (case hm_UnknownField => k_is)
    (case lf_UnknownField => k_is)
    (case cd_UnknownField => k_is)
    (case lc_UnknownField => k_is)
    (case v2_UnknownField => first | rfl | decide +kernel | k_is)
    (case fe_UnknownField => first | rfl | decide +kernel | k_is)
    (case lcc_UnknownField => k_is)
    (case sup_UnknownField => ks_is)
    (case mro_UnknownField => k_is)
    (case hD_UnknownField => k_is)
    (case mb_ElseputError => k_is)
    (case md_ElseputError => k_is)
    (case mt_ElseputError => k_is)
    (case ms_BadName_ElseputError => k_is)
    (case ms_BadNumber_ElseputError => k_is)
    (case ms_TooLarge_ElseputError => k_is)
    (case ms_UnknownField_ElseputError => k_is)
    (case kit_BadName_UnknownField => kit_is)
    (case kit_BadName_UnknownName => kit_is)
    (case kit_BadName_ValueError => kit_is)
    (case kit_BadName_UnknownKey => kit_is)
    (case kit_BadName_UnknownShape => kit_is)
    (case kit_BadName_BadName => kit_is)
    (case kit_BadName_BadNumber => kit_is)
    (case kit_BadNumber_UnknownField => kit_is)
    (case kit_BadNumber_UnknownName => kit_is)
    (case kit_BadNumber_ValueError => kit_is)
    (case kit_BadNumber_UnknownKey => kit_is)
    (case kit_BadNumber_UnknownShape => kit_is)
    (case kit_BadNumber_BadName => kit_is)
    (case kit_BadNumber_BadNumber => kit_is)
    (case kit_TooLarge_UnknownField => kit_is)
    (case kit_TooLarge_UnknownName => kit_is)
    (case kit_TooLarge_ValueError => kit_is)
    (case kit_TooLarge_UnknownKey => kit_is)
    (case kit_TooLarge_UnknownShape => kit_is)
    (case kit_TooLarge_BadName => kit_is)
    (case kit_TooLarge_BadNumber => kit_is)
    (case kit_UnknownField_UnknownField => kit_is)
    (case kit_UnknownField_UnknownName => kit_is)
    (case kit_UnknownField_ValueError => kit_is)
    (case kit_UnknownField_UnknownKey => kit_is)
    (case kit_UnknownField_UnknownShape => kit_is)
    (case kit_UnknownField_BadName => kit_is)
    (case kit_UnknownField_BadNumber => kit_is)
