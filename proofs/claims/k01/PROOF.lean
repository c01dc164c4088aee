import PyProof.Rows.All
import Wide.All
import OpenK.AllK
import Wide.FinOn
import HandS.ForMost
import HandS.Wide
import HandS.TupAny
import HandS.IsInst
import HandS.Flow
import HandS.Evl
import HandS.Walk
import HandS.ExcInit
import HandS.Nested
import HandS.FStr
import HandS.TryOnly
import HandS.TryMany
import HandS.ExcIs
import HandS.ExcField
import HandS.WordsExc
import HandS.RaiseMore
import KE.KExcSuper
import KE.KExcIs
import PyProof.StrOps2
import PyProof.Rows.ReprOcc
import PyProof.Rows.StrDigits
import PyProof.Rows.StrJoinMade
import PySem.Challenge.RW_elseput_k01_tokens_of_a_line
set_option Elab.async false
set_option linter.all false
set_option maxRecDepth 100000
/-! Own words over the hand layer: readings that compute on the values' shapes. -/
namespace El
open PySem PySem.Spec PyProof.Rows L2
section
variable {X : Cx}

theorem wk {e : Expr} {t t' : TE} (h : PE X e t) (i : ∀ σ H Q, t' σ H Q → t σ H Q) : PE X e t' :=
  ⟨fun pins s σ H Q I q => h.run pins s σ H Q I (i σ H Q q)⟩
theorem opwk {f : Value → Value → Sem Value} {r r' : R2} (h : OpR X f r) (i : ∀ x y H Q, r' x y H Q → r x y H Q) : OpR X f r' :=
  fun pins s σ H x y v u Q I rx ry q => h pins s σ H x y v u Q I rx ry (i x y H Q q)
theorem unwk {f : Value → Sem Value} {r r' : V → Hp → VK → Prop} (h : UnR X f r) (i : ∀ x H Q, r' x H Q → r x H Q) : UnR X f r' :=
  fun pins s σ H x v Q I rx q => h pins s σ H x v Q I rx (i x H Q q)
theorem cwk {f : Value} {r r' : List V → Hp → VK → Prop} (h : CallR X f r) (i : ∀ x H Q, r' x H Q → r x H Q) : CallR X f r' :=
  fun pins s σ H x v Q I rx q => h pins s σ H x v Q I rx (i x H Q q)
theorem ixwk {r r' : R2} (h : IxR X r) (i : ∀ x y H Q, r' x y H Q → r x y H Q) : IxR X r' :=
  fun a b pins s σ H x y v u Q I rx ry q => h a b pins s σ H x y v u Q I rx ry (i x y H Q q)
theorem slwk {r r' : V → Option Int → Option Int → Hp → VK → Prop} (h : SlR X r) (i : ∀ x a b H Q, r' x a b H Q → r x a b H Q) : SlR X r' :=
  fun pins s σ H x v vl vu lo hi sl Q I rx hs pl pu q => h pins s σ H x v vl vu lo hi sl Q I rx hs pl pu (i x lo hi H Q q)

/-! ### a name in its slot -/
def tV (i : Nat) : TE := fun σ H Q => match σ[i]? with | some (some v) => Q v H | _ => False
theorem v_ (i : Nat) {x : Str} {pos : Pos} (hN : X.N[i]? = some x := by rfl) (hv : Vis X.env.scope x := by first | exact Or.inl rfl | exact Or.inr (Or.inl rfl) | exact Or.inr (Or.inr rfl)) (hd : (x == ("__debug__" : Str)) = false := by decide)
    (hcd : (x == ("__classdict__" : Str)) = false := by decide) : PE X (.Name x pos) (tV i) :=
  wk (pv i hN hv hd hcd) fun σ H Q q => by
    unfold tV at q
    split at q
    · rename_i v e; exact ⟨v, e, q⟩
    · exact q.elim

/-! ### operators -/
def addM (K : PySem.W.Frag) : R2 := fun x y H Q => match x, y with
  | .int i, .int j => Q (.int (i + j)) H
  | .str i, .str j => i.length + j.length ≤ sizeLine ∧ Q (.str (i ++ j)) H
  | .ref a, .ref b => (∃ xs zs, H a = some (.lst xs) ∧ H b = some (.lst zs) ∧ xs.length + zs.length ≤ sizeLine ∧ ∀ p, H p = none → Q (.ref p) (upd H p (.lst (xs ++ zs)))) ∨ rCatT K (.ref a) (.ref b) H Q
  | _, _ => False
theorem op_addM : OpR X (binaryOp .Add) (addM X.K) := opwk (OpR.or op_add (OpR.or op_add_str (OpR.or op_cat op_catT))) fun x y H Q q => by
  unfold addM at q
  split at q
  · exact .inl ⟨_, _, rfl, rfl, q⟩
  · exact .inr (.inl ⟨_, _, rfl, rfl, q⟩)
  · rcases q with ⟨xs, zs, h1, h2, h3, h4⟩ | q
    · exact .inr (.inr (.inl ⟨_, _, xs, zs, rfl, rfl, h1, h2, h3, h4⟩))
    · exact .inr (.inr (.inr q))
  · exact q.elim
def subM : R2 := fun x y H Q => match x, y with
  | .int i, .int j => Q (.int (i - j)) H
  | _, _ => False
theorem op_subM : OpR X (binaryOp .Sub) subM := opwk op_sub fun x y H Q q => by
  unfold subM at q
  split at q
  · exact ⟨_, _, rfl, rfl, q⟩
  · exact q.elim
def mulM : R2 := fun x y H Q => match x, y with
  | .int i, .int j => (CMul i j ∨ CMulW i j) ∧ Q (.int (i * j)) H
  | .ref l, .int k => ∃ xs, H l = some (.lst xs) ∧ (-(2 ^ 63) ≤ k ∧ k < 2 ^ 63) ∧ xs.length * k.toNat ≤ sizeLine ∧ ∀ p, H p = none → Q (.ref p) (upd H p (.lst (List.replicate k.toNat xs).flatten))
  | _, _ => False
theorem op_mulM : OpR X (binaryOp .Mult) mulM := opwk (OpR.or op_mul (OpR.or op_mulW op_rep)) fun x y H Q q => by
  unfold mulM at q
  split at q
  · obtain ⟨h | h, q⟩ := q
    · exact .inl ⟨_, _, rfl, rfl, h, q⟩
    · exact .inr (.inl ⟨_, _, rfl, rfl, h, q⟩)
  · obtain ⟨xs, h1, h2, h3, h4⟩ := q
    exact .inr (.inr ⟨_, _, xs, rfl, rfl, h1, h2.1, h2.2, h3, h4⟩)
  · exact q.elim
def divM : R2 := fun x y H Q => match x, y with
  | .int i, .int j => (CDiv i j ∨ CDivW i j) ∧ Q (.int (i / j)) H
  | _, _ => False
theorem op_divM : OpR X (binaryOp .FloorDiv) divM := opwk (OpR.or op_fdiv op_fdivW) fun x y H Q q => by
  unfold divM at q
  split at q
  · obtain ⟨h | h, q⟩ := q
    · exact .inl ⟨_, _, rfl, rfl, h, q⟩
    · exact .inr ⟨_, _, rfl, rfl, h, q⟩
  · exact q.elim
def modM : R2 := fun x y H Q => match x, y with
  | .int i, .int j => 0 < j ∧ Q (.int (i % j)) H
  | _, _ => False
theorem op_modM : OpR X (binaryOp .Mod) modM := opwk op_mod fun x y H Q q => by
  unfold modM at q
  split at q
  · exact ⟨_, _, rfl, rfl, q.1, q.2⟩
  · exact q.elim
def powM : R2 := fun x y H Q => match x, y with
  | .int i, .int j => CPow i j ∧ Q (.int (i ^ j.toNat)) H
  | _, _ => False
theorem op_powM : OpR X (binaryOp .Pow) powM := opwk op_pow fun x y H Q q => by
  unfold powM at q
  split at q
  · exact ⟨_, _, rfl, rfl, q.1, q.2⟩
  · exact q.elim
def negM : V → Hp → VK → Prop := fun x H Q => match x with
  | .int i => Q (.int (-i)) H
  | _ => False
theorem un_negM : UnR X (unaryOp .USub) negM := unwk un_neg fun x H Q q => by
  unfold negM at q
  split at q
  · exact ⟨_, rfl, q⟩
  · exact q.elim

/-! ### comparisons -/
def cmpM (f : Int → Int → Bool) : R2 := fun x y H Q => match x, y with
  | .int i, .int j => Q (.bl (f i j)) H
  | _, _ => False
theorem cmpwk {f : Int → Int → Bool} {g : Value → Value → Sem Value} (h : OpR X g (rI0 fun i j => .bl (f i j))) : OpR X g (cmpM f) := opwk h fun x y H Q q => by
  unfold cmpM at q
  split at q
  · exact ⟨_, _, rfl, rfl, q⟩
  · exact q.elim
theorem op_ltM : OpR X (compareOp .Lt) (cmpM fun i j => decide (i < j)) := cmpwk op_lt
theorem op_leM : OpR X (compareOp .LtE) (cmpM fun i j => decide (i ≤ j)) := cmpwk op_le
theorem op_gtM : OpR X (compareOp .Gt) (cmpM fun i j => decide (j < i)) := cmpwk op_gt
theorem op_geM : OpR X (compareOp .GtE) (cmpM fun i j => decide (j ≤ i)) := cmpwk op_ge
/-- ==: of plain values by the values; else of data -/
def eqM (K : PySem.W.Frag) : R2 := fun x y H Q => match x, y with
  | .int i, .int j => Q (.bl (decide (i = j))) H
  | .str i, .str j => Q (.bl (decide (i = j))) H
  | .bl i, .bl j => Q (.bl (decide (i = j))) H
  | .non, .non => Q (.bl true) H
  | .non, .int _ => Q (.bl false) H
  | .int _, .non => Q (.bl false) H
  | .non, .str _ => Q (.bl false) H
  | .str _, .non => Q (.bl false) H
  | .non, .bl _ => Q (.bl false) H
  | .bl _, .non => Q (.bl false) H
  | .int _, .str _ => Q (.bl false) H
  | .str _, .int _ => Q (.bl false) H
  | .bl _, .str _ => Q (.bl false) H
  | .str _, .bl _ => Q (.bl false) H
  | x, y => rEqD K x y H Q
theorem op_eqM (hu : X.A.units + 64 < cLine) : OpR X (compareOp .Eq) (eqM X.K) := opwk (OpR.or op_eq (op_eqD hu)) fun x y H Q q => by
  unfold eqM at q
  split at q
  all_goals first
    | exact .inl ⟨rfl, by simpa using q⟩
    | exact .inr q
def neM (K : PySem.W.Frag) : R2 := fun x y H Q => match x, y with
  | .int i, .int j => Q (.bl (!decide (i = j))) H
  | .str i, .str j => Q (.bl (!decide (i = j))) H
  | .bl i, .bl j => Q (.bl (!decide (i = j))) H
  | .non, .non => Q (.bl false) H
  | .non, .int _ => Q (.bl true) H
  | .int _, .non => Q (.bl true) H
  | .non, .str _ => Q (.bl true) H
  | .str _, .non => Q (.bl true) H
  | .non, .bl _ => Q (.bl true) H
  | .bl _, .non => Q (.bl true) H
  | .int _, .str _ => Q (.bl true) H
  | .str _, .int _ => Q (.bl true) H
  | .bl _, .str _ => Q (.bl true) H
  | .str _, .bl _ => Q (.bl true) H
  | x, y => rNeD K x y H Q
theorem op_neM (hu : X.A.units + 64 < cLine) : OpR X (compareOp .NotEq) (neM X.K) := opwk (OpR.or op_ne (op_neD hu)) fun x y H Q q => by
  unfold neM at q
  split at q
  all_goals first
    | exact .inl ⟨rfl, by simpa using q⟩
    | exact .inr q
/-- is, is not: None, True, False -/
def isV (x y : V) : Bool := match x, y with
  | .non, .non => true
  | .bl a, .bl b => a == b
  | _, _ => false
def litV (y : V) : Bool := match y with | .non => true | .bl _ => true | _ => false
def isM : R2 := fun x y H Q => match litV y with | true => Q (.bl (isV x y)) H | false => False
def notM : R2 := fun x y H Q => match litV y with | true => Q (.bl (!isV x y)) H | false => False
theorem lit_cases {y : V} (h : litV y = true) : y = .non ∨ ∃ b, y = .bl b := by
  cases y with
  | non => exact .inl rfl
  | bl b => exact .inr ⟨b, rfl⟩
  | _ => exact absurd (show false = true from h) (by decide)
theorem is_other {A : Around} {E : Value → Shared → Prop} {M : Model} {x : V} {v : Value} {b : Bool} {s : Shared} {Q : Value → Shared → Prop} (rx : RelV x v) (h : Q (.bool (isV x (.bl b))) s) : wpAny M A (compareOp .Is v (.bool b)) Q E s := by
  cases x with
  | bl a =>
    cases rx
    by_cases e : a = b
    · subst e; exact wpAny_is_self rfl (by simpa [isV] using h)
    · exact wpAny_is_other rfl (fun z => e (Value.bool.inj z)) (by rw [show isV (.bl a) (.bl b) = false from beq_eq_false_iff_ne.mpr e] at h; exact h)
  | non => cases rx; exact wpAny_is_other rfl (by intro z; cases z) h
  | int i => obtain ⟨t, rfl⟩ := rx; exact wpAny_is_other rfl (by intro z; cases z) h
  | str i => obtain ⟨t, rfl⟩ := rx; exact wpAny_is_other rfl (by intro z; cases z) h
  | byt i => obtain ⟨t, rfl⟩ := rx; exact wpAny_is_other rfl (by intro z; cases z) h
  | flt i => obtain ⟨t, rfl⟩ := rx; exact wpAny_is_other rfl (by intro z; cases z) h
  | ref a => cases rx; exact wpAny_is_other rfl (by intro z; cases z) h
  | ty n => cases rx; exact wpAny_is_other rfl (by intro z; cases z) h
theorem isnot_other {A : Around} {E : Value → Shared → Prop} {M : Model} {x : V} {v : Value} {b : Bool} {s : Shared} {Q : Value → Shared → Prop} (rx : RelV x v) (h : Q (.bool (!isV x (.bl b))) s) : wpAny M A (compareOp .IsNot v (.bool b)) Q E s := by
  cases x with
  | bl a =>
    cases rx
    by_cases e : a = b
    · subst e; exact wpAny_isNot_self rfl (by simpa [isV] using h)
    · exact wpAny_isNot_other rfl (fun z => e (Value.bool.inj z)) (by rw [show isV (.bl a) (.bl b) = false from beq_eq_false_iff_ne.mpr e] at h; exact h)
  | non => cases rx; exact wpAny_isNot_other rfl (by intro z; cases z) h
  | int i => obtain ⟨t, rfl⟩ := rx; exact wpAny_isNot_other rfl (by intro z; cases z) h
  | str i => obtain ⟨t, rfl⟩ := rx; exact wpAny_isNot_other rfl (by intro z; cases z) h
  | byt i => obtain ⟨t, rfl⟩ := rx; exact wpAny_isNot_other rfl (by intro z; cases z) h
  | flt i => obtain ⟨t, rfl⟩ := rx; exact wpAny_isNot_other rfl (by intro z; cases z) h
  | ref a => cases rx; exact wpAny_isNot_other rfl (by intro z; cases z) h
  | ty n => cases rx; exact wpAny_isNot_other rfl (by intro z; cases z) h
theorem isV_non (x : V) : isV x .non = decide (x = .non) := by cases x <;> rfl
theorem op_isM : OpR X (compareOp .Is) isM := by
  intro pins s σ H x y v u Q I rx ry q
  unfold isM at q
  split at q
  · rename_i e
    rcases lit_cases e with rfl | ⟨b, rfl⟩
    · exact op_isN pins s σ H x .non v u Q I rx ry ⟨rfl, by rw [← isV_non]; exact q⟩
    · cases ry
      exact is_other rx ⟨.bl _, H, I, rfl, q⟩
  · exact q.elim
theorem op_isNotM : OpR X (compareOp .IsNot) notM := by
  intro pins s σ H x y v u Q I rx ry q
  unfold notM at q
  split at q
  · rename_i e
    rcases lit_cases e with rfl | ⟨b, rfl⟩
    · exact op_notN pins s σ H x .non v u Q I rx ry ⟨rfl, by rw [← isV_non]; exact q⟩
    · cases ry
      exact isnot_other rx ⟨.bl _, H, I, rfl, q⟩
  · exact q.elim
/-- in: a list or a tuple of plain things; a sign in a text -/
def inM (K : PySem.W.Frag) (neg : Bool) : R2 := fun x y H Q => match y with
  | .str z => ∃ c : Nat, x = .str ⟨#[c]⟩ ∧ Q (.bl (if neg then !decide (c ∈ z.cps.toList) else decide (c ∈ z.cps.toList))) H
  | .ref p => ∃ xs, (SqL K H p xs ∨ SqT K H p xs) ∧ flatV x = true ∧ xs.all flatV = true ∧ Q (.bl (if neg then !inV x xs else inV x xs)) H
  | _ => False
theorem op_inM : OpR X (compareOp .In) (inM X.K false) := opwk (OpR.or op_in_sign op_in_seq) fun x y H Q q => by
  unfold inM at q
  split at q
  · obtain ⟨c, e, q⟩ := q
    exact .inl ⟨c, _, e, rfl, q⟩
  · obtain ⟨xs, h1, h2, h3, q⟩ := q
    exact .inr ⟨_, xs, rfl, h1, h2, h3, q⟩
  · exact q.elim
theorem op_notInM : OpR X (compareOp .NotIn) (inM X.K true) := opwk (OpR.or op_notIn_sign op_notIn_seq) fun x y H Q q => by
  unfold inM at q
  split at q
  · obtain ⟨c, e, q⟩ := q
    exact .inl ⟨c, _, e, rfl, q⟩
  · obtain ⟨xs, h1, h2, h3, q⟩ := q
    exact .inr ⟨_, xs, rfl, h1, h2, h3, q⟩
  · exact q.elim

/-! ### tests -/
variable {a b : Expr} {rest : List Expr} {ta tb : TE} {pos : Pos}
def tTs (t : TE) : TT := fun σ H Q => t σ H fun x H' => match x with | .bl k => Q k H' | _ => False
theorem pt_c {op : CmpOp} {r : R2} (ho : OpR X (compareOp op) r) (ha : PE X a ta) (hb : PE X b tb) (hm : behindInMarks op b = false := by first | exact nomark _ | rfl) : PT X (.Compare a [op] [b] pos) (tTs (tOp r ta tb)) := by
  refine ⟨fun pins s σ H Q I h => ?_⟩
  refine wpAny_isTrue_Compare1 (thn (ha.run pins s σ H _ I h) fun v s1 ⟨x, H1, I1, r1, q1⟩ => thn (hb.run pins s1 σ H1 _ I1 q1) fun u s2 ⟨y, H2, I2, r2, q2⟩ =>
    thn (ho pins s2 σ H2 x y v u _ I2 r1 r2 q2) fun c s3 ⟨z, H3, I3, r3, q3⟩ => ?_) hm
  cases z with
  | bl k => cases r3; exact wpAny_truthy_bool ⟨H3, I3, q3⟩
  | _ => exact (show False from q3).elim
theorem pe_c {op : CmpOp} {r : R2} (ho : OpR X (compareOp op) r) (ha : PE X a ta) (hb : PE X b tb) (hm : behindInMarks op b = false := by first | exact nomark _ | rfl) : PE X (.Compare a [op] [b] pos) (tOp r ta tb) := pe_cmpR ho ha hb hm
/-- any value's truth -/
def tTr (K : PySem.W.Frag) (t : TE) : TT := fun σ H Q => t σ H fun x H' => match x with
  | .bl k => Q k H'
  | .non => Q false H'
  | .int i => Q (i != 0) H'
  | .str y => y.length ≤ sizeLine ∧ Q ((y.length : Int) != 0) H'
  | .ref p => (∃ xs, SqL K H' p xs ∧ Q (!xs.isEmpty) H') ∨ (∃ xs, SqT K H' p xs ∧ Q (!xs.isEmpty) H') ∨ ∃ kvs, H' p = some (.dK kvs) ∧ Q (!kvs.isEmpty) H'
  | _ => False
theorem pt_tr (ha : PE X a ta) (he : ∀ whole, isTrue a X.env whole = (do let v ← whole; standAt a.pos; holding [v] (truthy v)) := by intro _; rfl) : PT X a (tTr X.K ta) := by
  refine ⟨fun pins s σ H Q I h => ?_⟩
  refine isTrue_plain (thn (ha.run pins s σ H _ I h) fun v s1 ⟨x, H1, I1, r1, q1⟩ => tru_ok pins s1 σ H1 x v Q I1 r1 ?_) (he _)
  cases x with
  | bl k => exact ⟨k, rfl, q1⟩
  | non => exact ⟨false, rfl, q1⟩
  | int i => exact ⟨_, rfl, q1⟩
  | str y => exact ⟨_, ⟨q1.1, rfl⟩, q1.2⟩
  | ref p =>
    rcases (show (∃ xs, SqL X.K H1 p xs ∧ Q (!xs.isEmpty) H1) ∨ (∃ xs, SqT X.K H1 p xs ∧ Q (!xs.isEmpty) H1) ∨ ∃ kvs, H1 p = some (.dK kvs) ∧ Q (!kvs.isEmpty) H1 from q1) with ⟨xs, h, q⟩ | ⟨xs, h, q⟩ | ⟨xs, h, q⟩
    · exact ⟨_, .inl ⟨xs, h, rfl⟩, q⟩
    · exact ⟨_, .inr (.inl ⟨xs, h, rfl⟩), q⟩
    · exact ⟨_, .inr (.inr ⟨xs, h, rfl⟩), q⟩
  | _ => exact (show False from q1).elim
def tAndM (ta tb : TE) : TE := fun σ H Q => ta σ H fun x H1 => match x with | .bl c => (if c = true then tb σ H1 Q else Q (.bl false) H1) | _ => False
def tOrM (ta tb : TE) : TE := fun σ H Q => ta σ H fun x H1 => match x with | .bl c => (if c = true then Q (.bl true) H1 else tb σ H1 Q) | _ => False
def tNotM (ta : TE) : TE := fun σ H Q => ta σ H fun x H1 => match x with | .bl c => Q (.bl (!c)) H1 | _ => False
theorem pe_andM (ha : PE X a ta) (hb : PE X (.BoolOp .And (b :: rest) pos) tb) : PE X (.BoolOp .And (a :: b :: rest) pos) (tAndM ta tb) := by
  refine ⟨fun pins s σ H Q I h => ?_⟩
  refine BoolOp_and (thn (ha.run pins s σ H _ I h) fun v s1 ⟨x, H1, I1, r1, q1⟩ => ?_)
  cases x with
  | bl c =>
    cases r1
    refine wpAny_truthy_bool ?_
    cases c with
    | true => exact hb.run pins s1 σ H1 Q I1 q1
    | false => exact ⟨.bl false, H1, I1, rfl, q1⟩
  | _ => exact (show False from q1).elim
theorem pe_orM (ha : PE X a ta) (hb : PE X (.BoolOp .Or (b :: rest) pos) tb) : PE X (.BoolOp .Or (a :: b :: rest) pos) (tOrM ta tb) := by
  refine ⟨fun pins s σ H Q I h => ?_⟩
  refine BoolOp_or (thn (ha.run pins s σ H _ I h) fun v s1 ⟨x, H1, I1, r1, q1⟩ => ?_)
  cases x with
  | bl c =>
    cases r1
    refine wpAny_truthy_bool ?_
    cases c with
    | false => exact hb.run pins s1 σ H1 Q I1 q1
    | true => exact ⟨.bl true, H1, I1, rfl, q1⟩
  | _ => exact (show False from q1).elim
theorem pe_notM (ha : PE X a ta) : PE X (.UnaryOp .Not a pos) (tNotM ta) := by
  refine ⟨fun pins s σ H Q I h => ?_⟩
  refine UnaryOp_ (thn (ha.run pins s σ H _ I h) fun v s1 ⟨x, H1, I1, r1, q1⟩ => ?_)
  cases x with
  | bl c => cases r1; exact not_of (wpAny_truthy_bool ⟨.bl (!c), H1, I1, rfl, q1⟩)
  | _ => exact (show False from q1).elim

/-! ### subscripts, slices, calls of built-ins -/
def ixM (K : PySem.W.Frag) : R2 := fun x y H Q => match x, y with
  | .str z, .int i => z.length ≤ sizeLine ∧ ∃ c, atI z.cps.toList i = some c ∧ Q (.str ⟨#[c]⟩) H
  | .ref p, .int i => ∃ xs, (SqL K H p xs ∨ SqT K H p xs) ∧ ∃ v, atI xs i = some v ∧ Q v H
  | _, _ => False
theorem ix_M : IxR X (ixM X.K) := ixwk ix_seq fun x y H Q q => by
  unfold ixM at q
  split at q
  · obtain ⟨h, c, e, q⟩ := q
    exact .inr (.inr ⟨_, _, c, rfl, rfl, h, e, q⟩)
  · obtain ⟨xs, h | h, v, e, q⟩ := q
    · exact .inl ⟨_, xs, _, v, rfl, rfl, h, e, q⟩
    · exact .inr (.inl ⟨_, xs, _, v, rfl, rfl, h, e, q⟩)
  · exact q.elim
theorem e_ix (ha : PE X a ta) (hb : PE X b tb) (hs : PlainIx b := by intro _ _; rfl) : PE X (.Subscript a b pos) (tOp (ixM X.K) ta tb) := pe_ix ix_M ha hb hs
def slM (K : PySem.W.Frag) : V → Option Int → Option Int → Hp → VK → Prop := fun x lo hi H Q => match x with
  | .str z => z.length ≤ sizeLine ∧ Q (.str (cutS z lo hi)) H
  | .ref p => (∃ xs, SqL K H p xs ∧ ∀ q, H q = none → Q (.ref q) (upd H q (.lst (cutV xs lo hi)))) ∨ rSlT K (.ref p) lo hi H Q
  | _ => False
theorem sl_M : SlR X (slM X.K) := slwk (SlR.or sl_str (SlR.or sl_list sl_tup)) fun x lo hi H Q q => by
  unfold slM at q
  split at q
  · exact .inl ⟨_, rfl, q.1, q.2⟩
  · rcases q with ⟨xs, h, q⟩ | q
    · exact .inr (.inl ⟨_, xs, rfl, h, q⟩)
    · exact .inr (.inr q)
  · exact q.elim
def intM : List V → Hp → VK → Prop := fun xs H Q => match xs with
  | [.int i] => Q (.int i) H
  | [.bl k] => Q (.int (if k then 1 else 0)) H
  | [.str a] => ∃ n, PySem.intText? a = some n ∧ a.length ≤ 640 ∧ Q (.int n) H
  | _ => False
theorem call_intM : CallR X (.type "int") intM := cwk (CallR.or call_int1 call_int_str) fun xs H Q q => by
  unfold intM at q
  split at q
  · exact .inl (.inl ⟨_, rfl, q⟩)
  · exact .inl (.inr ⟨_, rfl, q⟩)
  · obtain ⟨n, h1, h2, q⟩ := q
    exact .inr ⟨_, n, rfl, h1, h2, q⟩
  · exact q.elim
def lenM (K : PySem.W.Frag) : List V → Hp → VK → Prop := fun xs H Q => match xs with
  | [.str z] => z.length ≤ sizeLine ∧ Q (.int z.length) H
  | [.ref p] => (∃ xs, (SqL K H p xs ∨ SqT K H p xs) ∧ Q (.int xs.length) H) ∨ ∃ kvs, H p = some (.dK kvs) ∧ Q (.int kvs.length) H
  | _ => False
theorem call_lenM : CallR X (.builtin "len") (lenM X.K) := cwk (CallR.or call_len_str (CallR.or call_len_seq call_lenD)) fun xs H Q q => by
  unfold lenM at q
  split at q
  · exact .inl ⟨_, rfl, q.1, q.2⟩
  · rcases q with ⟨xs, h, q⟩ | ⟨kvs, h, q⟩
    · exact .inr (.inl ⟨_, xs, rfl, h, q⟩)
    · exact .inr (.inr ⟨_, kvs, rfl, h, q⟩)
  · exact q.elim

/-! ### the same, the written part named -/
theorem addK (K : PySem.W.Frag) (h : X.K = K := by rfl) : OpR X (binaryOp .Add) (addM K) := h ▸ op_addM
theorem eqK (K : PySem.W.Frag) (hu : X.A.units + 64 < cLine) (h : X.K = K := by rfl) : OpR X (compareOp .Eq) (eqM K) := h ▸ op_eqM hu
theorem neK (K : PySem.W.Frag) (hu : X.A.units + 64 < cLine) (h : X.K = K := by rfl) : OpR X (compareOp .NotEq) (neM K) := h ▸ op_neM hu
theorem inK (K : PySem.W.Frag) (h : X.K = K := by rfl) : OpR X (compareOp .In) (inM K false) := h ▸ op_inM
theorem notInK (K : PySem.W.Frag) (h : X.K = K := by rfl) : OpR X (compareOp .NotIn) (inM K true) := h ▸ op_notInM
theorem pt_t (K : PySem.W.Frag) (ha : PE X a ta) (he : ∀ whole, isTrue a X.env whole = (do let v ← whole; standAt a.pos; holding [v] (truthy v)) := by intro _; rfl) (h : X.K = K := by rfl) : PT X a (tTr K ta) := h ▸ pt_tr ha he
theorem e_x (K : PySem.W.Frag) (ha : PE X a ta) (hb : PE X b tb) (hs : PlainIx b := by intro _ _; rfl) (h : X.K = K := by rfl) : PE X (.Subscript a b pos) (tOp (ixM K) ta tb) := h ▸ e_ix ha hb hs
theorem slK (K : PySem.W.Frag) (h : X.K = K := by rfl) : SlR X (slM K) := h ▸ sl_M
theorem lenK (K : PySem.W.Frag) (h : X.K = K := by rfl) : CallR X (.builtin "len") (lenM K) := h ▸ call_lenM
theorem listK (K : PySem.W.Frag) (h : X.K = K := by rfl) : CallR X (.type "list") (fun xs H Q => ∃ p ys, xs = [.ref p] ∧ (SqL K H p ys ∨ SqT K H p ys) ∧ ∀ l, H l = none → Q (.ref l) (upd H l (.lst ys))) := h ▸ call_list_of
theorem tupleK (K : PySem.W.Frag) (h : X.K = K := by rfl) : CallR X (.type "tuple") (fun xs H Q => ∃ p ys, xs = [.ref p] ∧ ((SqL K H p ys ∧ ∀ l, H l = none → Q (.ref l) (upd H l (.tup ys))) ∨ (SqT K H p ys ∧ Q (.ref p) H))) := h ▸ call_tuple_of
theorem isiK (K : PySem.W.Frag) (h : X.K = K := by rfl) : CallR X (.builtin "isinstance") (rIsi K) := h ▸ call_isi
theorem allK (K : PySem.W.Frag) (hc : X.calm = true) (h : X.K = K := by rfl) : CallR X (.builtin "all") (rAll K) := h ▸ cr_all hc
theorem anyK (K : PySem.W.Frag) (hc : X.calm = true) (h : X.K = K := by rfl) : CallR X (.builtin "any") (rAny K) := h ▸ cr_any hc
theorem sortedK (K : PySem.W.Frag) (h : X.K = K := by rfl) : CallR X (.builtin "sorted") (rSorted K) := h ▸ cr_sorted
theorem sumK (K : PySem.W.Frag) (hc : X.calm = true) (h : X.K = K := by rfl) : CallR X (.builtin "sum") (rSum K) := h ▸ cr_sum hc

/-! ### calls of own defs -/
structure Cal (P : Program) (w : World) (K : PySem.W.Frag) (mg : Str → Option Value) (base : Heap) (CX : CXT) (k : Nat) (x : Str) (f : Addr) (fd : FuncData) (ps : List Str) (sp : Sp) : Prop where
  G : FnOk P w K mg base CX k f fd ps sp
  b : Binds K fd ps []
  kp : PySem.W.keepIn K (.ref f) = true
  m : mg x = some (.ref f)
end
end El

set_option Elab.async false
set_option linter.all false
set_option maxRecDepth 100000
set_option maxHeartbeats 4000000
/-! Own words: an own exception's first row super().__init__(e), the rest of its __init__ by the layer. -/
namespace El
open PySem PySem.Spec PyProof.Rows L2 NdefX
abbrev supRow (p0 p1 p2 p3 p4 : Pos) (e1 : Expr) : Stmt := .Expr (.Call (.Attribute (.Call (.Name "super" p0) [] [] p1) "__init__" p2) [e1] [] p3) p4
abbrev supNF (name qual : Str) (params : Arguments) (body : List Stmt) (scope : Scope) (cc cda : Addr) : NF := ⟨name, qual, params, body, scope, [("__class__", cc)], cda⟩

theorem inv_unpin {X : Cx} {pins : List (Addr × Obj)} {σ : L2.St} {H : Hp} {s : Shared} (I : Inv X pins σ H s) : Inv X [] σ H s := I.pins_of fun p hp => absurd hp (by simp)

theorem fn_super {P : Program} {w : World} {K : PySem.W.Frag} {mg : Str → Option Value} {base : Heap} {CX : CXT} {k : Nat} {f cc cda D : Addr} {name qual : Str} {params : Arguments} {scope : Scope} {doc pm ct oc ccl cl : Value} {od cdd cld : Option Addr} {osl ccs csl : Array (Option Value)} {vs0 : Array Value} {file : Str} {tf : Tok} {cdD : ClassData}
    {N ps : List Str} {sp : Sp} {e1 : Expr} {rest : List Stmt} {p0 p1 p2 p3 p4 : Pos} {ar : Arg}
    (lk : K.lookup f = some ⟨oc, od, .func (PySem.W.fnX name qual params (supRow p0 p1 p2 p3 p4 e1 :: rest) scope [("__class__", cc)] .none .none doc pm none (.ref cda) ct), osl⟩)
    (hcd : PySem.W.codeIn K (.ref cda) qual = true) (S : NScope N ps ["__class__"] scope)
    (hcode : K.lookup cda = some ⟨ccl, cdd, .fields vs0, ccs⟩) (hvs : vs0[2]? = some (.str file tf)) (hfile : ((P.main.file : Str) == file) = true)
    (hcell : K.lookup cc = some ⟨cl, cld, .cell (some (.ref D)), csl⟩) (hD : PySem.W.clsIn K D = some cdD) (hsuper : mg "super" = none)
    (hop : PySem.W.nsIn K PySem.cStatics "thirdparty.any" = some none)
    (hp : (params.posonlyargs ++ params.args).head? = some ar) (hps : ps[0]? = some ar.arg)
    (hks : scope.names.lookup ("super" : Str) = some .globalImplicit) (htop : (P.main.scope.names.lookup ("super" : Str)).isSome = false)
    (hboot : bootBuiltins "super" = some (.type "super"))
    (len : ∀ vs H Q E, sp vs H Q E → vs.length = ps.length)
    (hbody : ∀ (A : Around) (outer : List Env) (s : Shared) (H : Hp) (vs : List V) (Q : VK) (E : XK), Room k (A.deeper (envF (supNF name qual params (supRow p0 p1 p2 p3 p4 e1 :: rest) scope cc cda) f s.heap.objs.size)) → sp vs H Q E →
      ∃ (a C : Addr) (ta : TA) (t : TS), vs[0]? = some (.ref a) ∧ H a = some (exo a C none) ∧ OexC K C ∧ PySem.W.mroIn K C (.ref D) = some true ∧ PySem.W.ks_superIn K C D "__init__" = some (some (.builtin "ValueError.__init__")) ∧ PySem.W.subIn K (.ref C) (.type "ValueError") = some true ∧
        PA (ncx CX P w K mg base N (supNF name qual params (supRow p0 p1 p2 p3 p4 e1 :: rest) scope cc cda) f A outer s H E) [e1] ta ∧
        PSs (ncx CX P w K mg base N (supNF name qual params (supRow p0 p1 p2 p3 p4 e1 :: rest) scope cc cda) f A outer s H E) rest t ∧
        ta (startF N vs [none]) H fun ws H1 => H1 a = some (exo a C none) ∧ ws.length ≤ 1000 ∧ t { nx := fun _ H' => Q .non H', rt := Q } (startF N vs [none]) H1)
    (hst : ∀ env : Env, starEach [e1] env = (false, eval e1 env) :: starEach [] env) {pl : Env → Sem Bool}
    (he : ∀ env : Env, eval (.Call (.Attribute (.Call (.Name "super" p0) [] [] p1) "__init__" p2) [e1] [] p3) env = (do
      let ov ← attributeBase (.Call (.Name "super" p0) [] [] p1) "__init__" env (eval (.Call (.Name "super" p0) [] [] p1) env)
      standAt p2.atName
      let (f, first) ← holding [ov] (getMethod ov "__init__" (pl env))
      callWith p3 f first (backTo p3 (starEach [e1] env)) []))
    (hsw : ∀ env : Env, swapsWith (.Call (.Attribute (.Call (.Name "super" p0) [] [] p1) "__init__" p2) [e1] [] p3) none p4.line env = pure false) :
    FnOk P w K mg base CX (k + 1) f (PySem.W.fnX name qual params (supRow p0 p1 p2 p3 p4 e1 :: rest) scope [("__class__", cc)] .none .none doc pm none (.ref cda) ct) ps sp := by
  refine ⟨len, fun A outer s H args us vs Q E hr e0 hb r hsp => ?_⟩
  have hl := len _ _ _ _ hsp
  have KX : K.In s.heap := e0.mod.kin.keeps fun b o e => (e0.bs b o e).1
  have lim : s.heap.NoLimit := e0.mod.nolimit.keeps fun b o e => (e0.bs b o e).1
  have hkc : scope.names.lookup ("__class__" : Str) = some .free := S.frk _ (List.mem_singleton.mpr rfl)
  refine PySem.ks_codeAny_call_defAt (fd := PySem.W.fnX name qual params (supRow p0 p1 p2 p3 p4 e1 :: rest) scope [("__class__", cc)] .none .none doc pm none (.ref cda) ct) (body := supRow p0 p1 p2 p3 p4 e1 :: rest) (binds := ps.zip us) hr.depth (KX _ _ lk) rfl lim
    (PySem.W.codeRec_of KX hcd) rfl hb S.nocell (fun ⟨n, _⟩ hy => S.par n (List.of_mem_zip hy).1) (fun h₁ hns kp => ?_) S.co S.gen S.kind
  obtain ⟨a, C, ta, t, hv0, hexo, TC, hmro, hsup, hsubV, hPA, hPS, hq⟩ := hbody A outer s H vs Q E (hr.deeper _) hsp
  have bcc : base.get? cc = some ⟨cl, cld, .cell (some (.ref D)), csl⟩ := e0.mod.kin _ _ hcell
  have CC : CellsAt [(("__class__" : Str), cc)] ["__class__"] [none] s.heap H := by
    refine ⟨rfl, fun y c e => ?_, fun x y c e1 e2 => ?_, fun i y hi => ?_⟩
    · have : c = cc := by
        simp only [List.lookup] at e
        split at e
        · exact (Option.some.inj e).symm
        · cases e
      subst this
      exact ⟨(e0.bs _ _ bcc).2, _, _, KX _ _ hcell, rfl⟩
    · simp only [List.lookup] at e1 e2
      split at e1
      · rename_i h1
        split at e2
        · rename_i h2
          rw [beq_iff_eq] at h1 h2
          rw [h1, h2]
        · cases e2
      · cases e1
    · have : i = 0 ∧ y = "__class__" := by
        cases i with
        | zero => simp at hi; exact ⟨rfl, hi.symm⟩
        | succ i => simp at hi
      obtain ⟨rfl, rfl⟩ := this
      exact ⟨cc, by simp [List.lookup], fun v hv => by simp at hv⟩
  have I : Inv (ncx CX P w K mg base N (supNF name qual params (supRow p0 p1 p2 p3 p4 e1 :: rest) scope cc cda) f A outer s H E) [] (startF N vs [none]) H { s with heap := h₁, toks := s.toks + (ps.zip us).length } :=
    inv_startN (F := supNF name qual params (supRow p0 p1 p2 p3 p4 e1 :: rest) scope cc cda) S hr.hd e0 hl r CC hns kp
  have KX1 : K.In h₁ := fun b o e => kp b o (KX b o e)
  obtain ⟨oD, hD1, hD2⟩ : ∃ oD, h₁.get? D = some oD ∧ oD.data = .cls cdD := by
    unfold PySem.W.clsIn at hD
    split at hD
    · rename_i c d cd' sl ho
      cases hD
      exact ⟨_, KX1 _ _ ho, rfl⟩
    · cases hD
  have ndP : ps.Nodup := by
    have q := S.nd.sublist (List.take_sublist (ps.length + 1) N)
    rw [show N.take (ps.length + 1) = ps ++ [("__class__" : Str)] from S.pre] at q
    exact (List.nodup_append.mp q).1
  obtain ⟨u0, hu0, ru0⟩ := r.get hv0
  obtain rfl : u0 = Value.ref a := ru0
  obtain ⟨t1, hga⟩ := exo_at I.hok hexo
  have hint : interactive (envF (supNF name qual params (supRow p0 p1 p2 p3 p4 e1 :: rest) scope cc cda) f s.heap.objs.size) = false := by
    have hk := S.kind
    unfold interactive
    simp [Env.blockKind, hk]
  refine PySem.ks_wpAt_execs_cons (PySem.ks_wpAt_Expr_any (PySem.ks_wpAt_MethodCall (PySem.ks_wpAt_super_base (ar := ar) hks hkc (by decide +kernel) rfl (KX1 _ _ lk) rfl hp rfl (KX1 _ _ hcode) rfl hvs hfile htop ?_) (he _)) hint (hsw _))
  obtain ⟨mb, hb1, hb2⟩ := e0.mod.blt
  have kb : ∀ b o, base.get? b = some o → h₁.get? b = some o := fun b o e => kp b o (e0.bs b o e).1
  refine PySem.W.ks_loadName_global S.kind hks (Calls.loadGlobal_builtin (e0.mod.glob.keeps kb) hsuper (hb1.keeps kb) ((hb2 _ (by decide)).trans hboot) ⟨rfl, ?_⟩)
  refine wpAny_loadName_free S.kind hkc rfl ⟨_, KX1 _ _ hcell, rfl⟩ ?_
  refine wpAny_loadName_local S.kind (S.par _ (List.mem_of_getElem? hps)) hns (zip_look ndP hps hu0) ?_
  refine PySem.ks_wpAny_isType_cls hD1 hD2 ⟨rfl, ?_⟩
  refine PySem.ks_wpAny_call_super hD1 hD2 hga rfl (fun c e => by cases e) (PySem.W.looks_mroIn KX1 hmro) (fun h2 eso k2 => ?_)
  have I2 : Inv (ncx CX P w K mg base N (supNF name qual params (supRow p0 p1 p2 p3 p4 e1 :: rest) scope cc cda) f A outer s H E) [] (startF N vs [none]) H { s with heap := h2, toks := s.toks + (ps.zip us).length } := I.kept k2
  have KX2 : K.In h2 := fun b o e => k2 b o (KX1 b o e)
  cases hcC : PySem.W.clsIn K C with
  | none => unfold PySem.W.ks_superIn at hsup; rw [hcC] at hsup; cases hsup
  | some cd =>
  unfold PySem.W.ks_superIn at hsup
  rw [hcC] at hsup
  have hga2 := k2 _ _ hga
  have INS : PySem.W.InstAt h2 a { cls := .ref C, dict := none, data := .fields #[.ref t1, .none, .none, .none, .bool false, .none] } C none := ⟨hga2, rfl, rfl, trivial⟩
  have hI : PySem.W.Looks (model P w) h2 (isInstance (.ref a) (.type "ValueError")) true := INS.type.andThen (PySem.W.looks_subIn KX2 hsubV)
  refine PySem.W.kxs_getMethod PySem.W.kxs_ValueError eso (PySem.W.looks_opaque KX2 hop) (l₀ := cd.mro) (fun A Q E s k q => wpAny_bind ((PySem.W.looks_clsIn KX2 hcC) A _ E s k (wpAny_pure q))) rfl KX2 hsup hI (PySem.W.ks_ne KX2 INS hcC) (by decide +kernel) ?_
  have I3 : Inv (ncx CX P w K mg base N (supNF name qual params (supRow p0 p1 p2 p3 p4 e1 :: rest) scope cc cda) f A outer s H E) [] (startF N vs [none]) H { s with heap := h2.push (PySem.W.kxs_mw "ValueError.__init__" a), toks := s.toks + (ps.zip us).length + 1 } := I2.kept fun b o e => Heap.get?_push_of_some _ e
  have hu : (h2.push (PySem.W.kxs_mw "ValueError.__init__" a)).get? h2.objs.size = some (PySem.W.kxs_mw "ValueError.__init__" a) := Heap.get?_push_at rfl rfl
  have hfree : H h2.objs.size = none := I2.hok.fresh (Nat.le_refl _)
  have I4 : Inv (ncx CX P w K mg base N (supNF name qual params (supRow p0 p1 p2 p3 p4 e1 :: rest) scope cc cda) f A outer s H E) [(h2.objs.size, PySem.W.kxs_mw "ValueError.__init__" a)] (startF N vs [none]) H { s with heap := h2.push (PySem.W.kxs_mw "ValueError.__init__" a), toks := s.toks + (ps.zip us).length + 1 } :=
    I3.pins_of fun p hp => by
      obtain rfl := List.mem_singleton.mp hp
      exact ⟨hu, hfree, fun z => absurd I2.lt (by rw [← z]; exact Nat.lt_irrefl _), I2.nofs (Nat.le_refl _), fun v z => by cases z⟩
  show wpAny _ _ (callWith p3 (.ref h2.objs.size) [] (backTo p3 (starEach [e1] _)) []) _ _ _
  rw [hst]
  refine PySem.W.kxs_callWith (i := "ValueError.__init__") (x := a) rfl (Calls.evalArgs_plain ?_)
  have hrun := hPA.run p3 _ _ _ _ _ I4 hq
  rw [hst] at hrun
  refine thn hrun fun us' s4 ⟨ws, H1, I5, r5, hexo1, hws, hq1⟩ => ?_
  have hu5 : s4.heap.get? h2.objs.size = some (PySem.W.kxs_mw "ValueError.__init__" a) := (I5.pin (h2.objs.size, PySem.W.kxs_mw "ValueError.__init__" a) (List.mem_append_right _ (List.mem_singleton.mpr rfl))).1
  refine ⟨hu5, ?_⟩
  obtain ⟨nm, q9, N9, bs, bm, sn, sub, ab, col, dd, k0, k1, k2', k3, k5, hC, hbm⟩ := TC.cls
  obtain ⟨t2, hga5⟩ := exo_at I5.hok hexo1
  have hC5 := I5.kIn _ _ hC
  have hus : us'.length ≤ sizeLine := by
    rw [← Paired.length r5, sizeLine_eq]
    omega
  obtain ⟨h5, g5, d5, tk5, os5⟩ := s4
  show wpAny _ _ (call (.ref h2.objs.size) ([] ++ us')) _ _ _
  rw [List.nil_append]
  refine wpAny_call (codeAny_of_tree ?_)
  show wpAny _ _ (callAny (.ref h2.objs.size) ⟨us', []⟩) _ _ _
  simp only [callAny]
  refine wpAny_bind (wpAny_load hu5 ?_)
  simp only [PySem.W.kxs_mw, show (Value.type "method-wrapper" == Value.type "method" || Value.type "method-wrapper" == Value.type "builtin_function_or_method" || Value.type "method-wrapper" == Value.type "method-wrapper") = true by decide, if_true]
  refine PySem.W.KFB.if_so (by decide) ?_
  refine wpAny_bind (PySem.W.check_bound_init PySem.F.excBase_ValueError.toExcCallFacts hC5 hga5 rfl ?_)
  refine wpAny_bind (wpAny_pure (wpAny_pure ?_))
  refine ⟨plainId_quiet PySem.F.excBase_ValueError.init.plain _, codeAny_builtin PySem.F.excBase_ValueError.initEntry ?_⟩
  refine PySem.W.exc_init_tree (cls := .ref C) (t0 := t2) (dv := none) (c2 := .none) (c3 := .none) (b4 := .bool false) hga5 hus (fun h6 k6 e6 _ => ?_)
  have J := I5.write (t' := tk5) (x := a) (e := a) (o := exo a C none) (by rw [hexo1]; exact True.intro) (.inl rfl) k6 ⟨_, e6⟩ (exo_ok e6)
  have eu : upd H1 a (exo a C none) = H1 := by
    funext b
    by_cases hb : b = a
    · rw [hb, upd_same, hexo1]
    · rw [upd_ne hb]
  rw [eu] at J
  have J0 := inv_unpin J
  refine wpAt_of_wpAny ?_
  refine wpAny_mono (hPS.run [] _ _ H1 _ J0 hq1) (fun fl s' hs => ?_) fun e s' hs => hs
  have fin : ∀ {σ' : L2.St} {H' : Hp} {v : V} {u : Value}, Inv (ncx CX P w K mg base N (supNF name qual params (supRow p0 p1 p2 p3 p4 e1 :: rest) scope cc cda) f A outer s H E) [] σ' H' s' → L2.RelV v u → Q v H' → CE outer P w H s Q u s' :=
    fun {σ' H' v u} J rv q => ⟨v, H', J.os, J.bare, J.base, J.hok, rv, q⟩
  cases fl with
  | ret u =>
    obtain ⟨v, σ', H', J, rv, q⟩ := hs
    exact fin J rv q
  | next =>
    obtain ⟨σ', H', J, q⟩ := hs
    exact fin (v := V.non) (u := Value.none) J rfl q
  | brk =>
    obtain ⟨_, _, _, q⟩ := hs
    exact False.elim q
  | cont =>
    obtain ⟨_, _, _, q⟩ := hs
    exact False.elim q
end El

set_option Elab.async false
set_option linter.all false
set_option maxRecDepth 100000
set_option maxHeartbeats 4000000
/-! Own words: what the written part says of an own exception class, isinstance of what an except clause holds. -/
namespace El
open PySem PySem.Spec PyProof.Rows L2 NdefX
/-- isinstance(e, c), e the exception that the suite holds, with a dict -/
def rIsX (K : PySem.W.Frag) (cls : Value) (d : Option Addr) (a : Addr) : List V → Hp → VK → Prop := fun xs H Q => ∃ (D dd : Addr) (fs : List (Str × V)) (c : V) (cv : Value) (b : Bool), xs = [.ref a, c] ∧ cls = .ref D ∧ d = some dd ∧ H dd = some (.xd fs) ∧ ExcC K D ∧ (∀ u, RelV c u → u = cv) ∧ PySem.W.kitOne K (.ref D) cv = some b ∧ Q (.bl b) H
theorem call_isX {X : Cx} {a : Addr} {oe : Obj} {cls : Value} {d : Option Addr} {pn : List (Addr × Obj)} (hz : Zc cls d oe) (hf : ∃ vs, oe.data = .fields vs) : CallR (X.suite a ((a, oe) :: pn)) (.builtin "isinstance") (rIsX X.K cls d a) := by
  intro pins s σ H xs us Q I r h
  obtain ⟨D, dd, fs, c, cv, b, rfl, rfl, rfl, ea, C, hcv, e, q⟩ := h
  cases r with
  | cons rx rr =>
    cases rr with
    | cons rt rr =>
      cases rr
      cases rx
      have ec := hcv _ rt
      subst ec
      obtain ⟨hget, _⟩ := I.pin (a, oe) (List.mem_append.mpr (.inl List.mem_cons_self))
      obtain ⟨vs, hv⟩ := hf
      have hx : ObjOk X.prog X.w H s.heap dd (.xd fs) := I.hok dd _ ea
      obtain ⟨mA, hns, hr⟩ := hx
      obtain ⟨od, ho, hl⟩ := lookIn_ns hns
      have J : PySem.W.InstAt s.heap a oe D (some od) := ⟨hget, hz.1, by unfold PySem.W.notCls; rw [hv] <;> rfl, by rw [hz.2]; exact ho⟩
      obtain ⟨cdD, hcD, _⟩ := PySem.W.any_some C.hd
      exact PySem.W.kia_one (PySem.W.kitx_exc (by rw [hcD]; rfl) C.hg C.hk C.hs C.ha C.hn C.ht C.hm) I.kIn J e (fun z => nomatch z) fun tk => ⟨.bl b, H, I.kept (t' := tk) fun _ _ z => z, rfl, q⟩
/-- an own exception class with its own __init__ -/
structure ExK (K : PySem.W.Frag) (C fI : Addr) (fields : List Str) : Prop where
  oex : OexC K C
  sup : PySem.W.ks_superIn K C C "__init__" = some (some (.builtin "ValueError.__init__"))
  subV : PySem.W.subIn K (.ref C) (.type "ValueError") = some true
  mro : PySem.W.mroIn K C (.ref C) = some true
  iC : PySem.W.findIn K (.ref C) "__init__" = some (some (.ref fI))
  tI : PySem.W.typeIn K (.ref fI) = some (.type "function")
  no : ∀ f ∈ fields, PySem.W.findIn K (.ref C) f = some none
  xf : XfC K C
  is : ExcC K C
/-- what a suite that catches it must know -/
structure ExV (K : PySem.W.Frag) (C : Addr) (fields : List Str) : Prop where
  no : ∀ f ∈ fields, PySem.W.findIn K (.ref C) f = some none
  xf : XfC K C
  is : ExcC K C
/-- the i-th def of the class body -/
def mthS (s : Stmt) (i : Nat) : Stmt := match s with
  | .ClassDef _ _ _ b _ _ _ _ _ _ _ => b.getD i (.Pass ⟨0, 0, 0, 0⟩)
  | _ => .Pass ⟨0, 0, 0, 0⟩
/-- the same, from what the written part answers -/
theorem exk_mk {K : PySem.W.Frag} {C fI N : Addr} {fields : List Str} {nm q : Str} {bs bm : List Value} {sn : List Str} {sub : List Value} {ab : Bool} {col : Option Bool} {dd : Option Addr} {k0 k1 k2 k3 k5 : Option Value}
    (cls : K.lookup C = some (excClassObj nm q C N bs bm true sn sub ab col dd k0 k1 k2 k3 k5 "ValueError.__new__")) (ref : PySem.HandSPX.refsVE bm = true)
    (sa : PySem.W.findIn K (.ref C) "__setattr__" = some (some (.builtin "object.__setattr__"))) (exC : PySem.W.subIn K (.ref C) (.type "BaseException") = some true) (tyC : PySem.W.typeIn K (.ref C) = some (.type "type")) (kC : PySem.W.keepIn K (.ref C) = true)
    (sup : PySem.W.ks_superIn K C C "__init__" = some (some (.builtin "ValueError.__init__"))) (subV : PySem.W.subIn K (.ref C) (.type "ValueError") = some true) (mro : PySem.W.mroIn K C (.ref C) = some true)
    (iC : PySem.W.findIn K (.ref C) "__init__" = some (some (.ref fI))) (tI : PySem.W.typeIn K (.ref fI) = some (.type "function")) (no : ∀ f ∈ fields, PySem.W.findIn K (.ref C) f = some none)
    (ga : PySem.W.findIn K (.ref C) "__getattribute__" = some (some (.builtin "BaseException.__getattribute__"))) (gg : PySem.W.findIn K (.ref C) "__getattr__" = some none) (hd : PySem.W.hasDictIn K C = true)
    (hcl : PySem.W.findIn K (.ref C) "__class__" = some (some (.builtin "object.__class__"))) (hn : PySem.W.specialIn K (.builtin "object.__class__") "__get__" = some (some (.builtin "getset_descriptor.__get__"))) (ht : PySem.W.takesIn K (.builtin "object.__class__") = some true) (hm : PySem.W.mroIn K C (.type "object") = some true) : ExK K C fI fields :=
  ⟨⟨⟨nm, q, N, bs, bm, sn, sub, ab, col, dd, k0, k1, k2, k3, k5, cls, ref⟩, sa, exC, tyC, kC⟩, sup, subV, mro, iC, tI, no, ⟨ga, gg, exC, hd⟩, ⟨ga, gg, exC, hd, hcl, hn, ht, hm⟩⟩

/-! ### an own exception's __init__, by what it keeps -/
def spE (C : Addr) (ok : List V → Prop) (fs : List V → List (Str × V)) : Sp := fun vs H Q _ => ∃ (a : Addr) (ws : List V), vs = .ref a :: ws ∧ ok ws ∧ H a = some (exo a C none) ∧
  ∀ (dx : Addr) (H' : Hp), H dx = none → dx ≠ a → H' a = some (exo a C (some dx)) → H' dx = some (exd dx (fs ws)) → (∀ b, b ≠ a → b ≠ dx → H' b = H b) → Q .non H'
theorem mk_spE {C : Addr} {ok : List V → Prop} {fs : List V → List (Str × V)} {vs : List V} {H1 : Hp} {Q : XK} (hl : vs.length ≤ 1000) (ho : ok vs) (hq : ∀ d, H1 d = none → Q (.ref C) (some d) (upd H1 d (.xd (fs vs)))) :
    vs.length ≤ 1000 ∧ ∀ a, H1 a = none → spE C ok fs (.ref a :: (vs ++ [])) (upd H1 a (exo a C none))
      (fun v H2 => v = .non ∧ ∃ (d : Addr) (fs : List (Str × V)), H2 a = some (exo a C (some d)) ∧ H2 d = some (exd d fs) ∧ H1 d = none ∧ Q (.ref C) (some d) (upd (del H2 a) d (.xd fs))) (fun _ _ _ => False) := by
  refine ⟨hl, fun a na => ⟨a, vs, by rw [List.append_nil], ho, upd_same, fun dx H' n ne e1 e2 hh => ⟨rfl, dx, fs vs, e1, e2, ?_, ?_⟩⟩⟩
  · rw [upd_ne ne] at n
    exact n
  · have nd : H1 dx = none := by rw [upd_ne ne] at n; exact n
    have e : upd (del H' a) dx (.xd (fs vs)) = upd H1 dx (.xd (fs vs)) := by
      funext b
      by_cases hb : b = dx
      · rw [hb, upd_same, upd_same]
      · rw [upd_ne hb, upd_ne hb]
        by_cases ha : b = a
        · rw [ha, del_same, na]
        · rw [del_ne ha, hh b ha hb, upd_ne ha]
    rw [e]
    exact hq dx nd
/-- the class, its __init__, ready for a raise -/
structure CalE (P : Program) (w : World) (K : PySem.W.Frag) (mg : Str → Option Value) (base : Heap) (k : Nat) (x : Str) (C f : Addr) (fd : FuncData) (ps : List Str) (ok : List V → Prop) (fs : List V → List (Str × V)) (fields : List Str) : Prop where
  G : FnOk P w K mg base CX0 k f fd ps (spE C ok fs)
  b : Binds K fd ps []
  X : ExK K C f fields
  m : mg x = some (.ref C)
/-- one store, the dict being new -/
theorem ost1 {a C : Addr} {H : Hp} {f : Str} {y : V} {Q : Hp → Prop} (ea : H a = some (exo a C none)) (q : ∀ dx H', H dx = none → dx ≠ a → H' a = some (exo a C (some dx)) → H' dx = some (exd dx [(f, y)]) → (∀ b, b ≠ a → b ≠ dx → H' b = H b) → Q H') :
    ∀ dx, H dx = none → dx ≠ a → Q (upd (upd H dx (exd dx [(f, y)])) a (exo a C (some dx))) := fun dx n ne =>
  q dx _ n ne upd_same (by rw [upd_ne ne, upd_same]) fun b h1 h2 => by rw [upd_ne h1, upd_ne h2]
end El

set_option Elab.async false
set_option linter.all false
set_option maxRecDepth 100000
/-! Own words: a text times an int, the text of an int. -/
namespace El
open PySem PySem.Spec PyProof.Rows L2
def repS (z : Str) (k : Int) : Str := if k < 1 then Str.empty else if (k == 1 || z.length == 0) = true then z else ⟨(List.replicate k.toNat z.cps).foldl (· ++ ·) #[]⟩
theorem foldl_cps : ∀ (n : Nat) (a b : Array Nat), ((List.replicate n b).foldl (· ++ ·) a).toList = a.toList ++ (List.replicate n b.toList).flatten
  | 0, a, b => by simp
  | n + 1, a, b => by
    rw [List.replicate_succ, List.foldl_cons, foldl_cps n, Array.toList_append, List.replicate_succ, List.flatten_cons, List.append_assoc]
theorem repS_cps (z : Str) (k : Int) : (repS z k).cps.toList = (List.replicate k.toNat z.cps.toList).flatten := by
  unfold repS
  split
  · rename_i h
    rw [show k.toNat = 0 by omega]
    rfl
  · split
    · rename_i h1 h
      rw [Bool.or_eq_true, beq_iff_eq, beq_iff_eq] at h
      rcases h with h | h
      · subst h
        simp
      · have : z.cps.toList = [] := List.eq_nil_of_length_eq_zero (by rw [Array.length_toList]; exact h)
        rw [this]
        simp
    · rw [foldl_cps]
      rfl
theorem repS1 {c : Nat} {k : Int} : (repS ⟨#[c]⟩ k).cps.toList = List.replicate k.toNat c := by
  rw [repS_cps]
  simp
theorem op_mulS {X : Cx} : OpR X (binaryOp .Mult) (fun x y H Q => ∃ (z : Str) (k : Int), x = .str z ∧ y = .int k ∧ k ≤ 1000 ∧ -1000 ≤ k ∧ z.length ≤ 1000 ∧ Q (.str (repS z k)) H) := by
  intro pins s σ H x y v u Q I rx ry h
  obtain ⟨z, k, rfl, rfl, h1, h2, h3, q⟩ := h
  obtain ⟨t, rfl⟩ := rx
  obtain ⟨t', rfl⟩ := ry
  have e : (2 : Int) ^ 63 = 9223372036854775808 := by decide
  refine PySem.P.mul_str ?_ (fun n1 n2 => ?_) (fun n1 n2 => ?_) ?_
  · rw [e, decide_eq_false (by omega), decide_eq_false (by omega)]
    rfl
  · rw [e]
    have : ((9223372036854775808 : Int) - 1) / 1000 ≤ (9223372036854775808 - 1) / k := by
      refine Int.le_ediv_of_mul_le (by omega) ?_
      have : (9223372036854775808 - 1) / 1000 * k ≤ (9223372036854775808 - 1) / 1000 * 1000 := Int.mul_le_mul_of_nonneg_left h1 (by decide)
      refine Int.le_trans this (by decide)
    have : (1000 : Int) ≤ (9223372036854775808 - 1) / 1000 := by decide
    omega
  · have : z.length * k.toNat ≤ 1000 * 1000 := Nat.mul_le_mul h3 (by omega)
    show decide _ = false
    refine decide_eq_false ?_
    rw [sizeLine_eq]
    omega
  · unfold repS at q
    split
    · rename_i c
      rw [if_pos c] at q
      exact ⟨by decide, .str _, H, I.tok _, ⟨_, rfl⟩, q⟩
    · rename_i c
      rw [if_neg c] at q
      split
      · rename_i c2
        rw [if_pos c2] at q
        exact ⟨.str _, H, I, ⟨_, rfl⟩, q⟩
      · rename_i c2
        rw [if_neg c2] at q
        refine ⟨?_, .str _, H, I.tok _, ⟨_, rfl⟩, q⟩
        have e2 := foldl_cps k.toNat #[] z.cps
        have e3 : ((List.replicate k.toNat z.cps).foldl (· ++ ·) #[]).size = k.toNat * z.length := by
          rw [← Array.length_toList, e2, List.length_append]
          simp
          rfl
        show ((List.replicate k.toNat z.cps).foldl (· ++ ·) #[]).size ≤ sizeLine
        rw [e3, sizeLine_eq]
        have : k.toNat * z.length ≤ 1000 * 1000 := Nat.mul_le_mul (by omega) h3
        omega
/-- times, of texts too -/
def mulSM : R2 := fun x y H Q => match x, y with
  | .str z, .int k => k ≤ 1000 ∧ -1000 ≤ k ∧ z.length ≤ 1000 ∧ Q (.str (repS z k)) H
  | _, _ => mulM x y H Q
theorem op_mulSM {X : Cx} : OpR X (binaryOp .Mult) mulSM := opwk (OpR.or op_mulS op_mulM) fun x y H Q q => by
  unfold mulSM at q
  split at q
  · exact .inl ⟨_, _, rfl, rfl, q⟩
  · exact .inr q
/-- the signs of a number's text -/
theorem int_digits {i : Int} (h : 0 ≤ i) : ∀ c ∈ ((toString i : String) : Str).cps.toList, 48 ≤ c ∧ c ≤ 57 := by
  intro c hm
  by_cases hk : c ≠ 45 ∧ (c < 48 ∨ 57 < c)
  · exact absurd hm (int_text_free' c hk i)
  · by_cases h45 : c = 45
    · exfalso
      subst h45
      obtain ⟨n, rfl⟩ := Int.eq_ofNat_of_zero_le h
      rw [signs_ofString] at hm
      obtain ⟨ch, hc, e⟩ := List.mem_map.mp hm
      have hd : ch.isDigit = true := by
        have : ch ∈ (Nat.repr n).toList := hc
        exact Nat.isDigit_of_mem_toDigits (b := 10) (n := n) (by decide) (by decide) (by simpa [Nat.repr] using this)
      have := digit_range hd
      omega
    · omega
theorem int_text_ne (i : Int) : ((toString i : String) : Str).cps.toList ≠ [] := by
  rw [signs_ofString]
  intro h
  have h := List.map_eq_nil_iff.mp h
  have nn : ∀ n : Nat, (Nat.repr n).toList ≠ [] := fun n e => by
    have : Nat.toDigits 10 n = [] := by simpa [Nat.repr] using e
    exact Nat.toDigits_ne_nil this
  cases i with
  | ofNat n => exact nn n h
  | negSucc n =>
    have : ("-" ++ Nat.repr (n + 1)).toList = [] := h
    simp at this
end El

set_option Elab.async false
set_option linter.all false
set_option maxRecDepth 100000
/-! Own mathematics: a line as a list of codes, its tokens. -/
namespace El
abbrev LT : List Nat := [97, 98, 99, 100, 101, 102, 103, 104, 105, 106, 107, 108, 109, 110, 111, 112, 113, 114, 115, 116, 117, 118, 119, 120, 121, 122]
abbrev DG : List Nat := [48, 49, 50, 51, 52, 53, 54, 55, 56, 57]
abbrev SG : List (List Nat) := [[60], [60, 61], [61, 61], [33, 61], [62, 61], [62]]
abbrev MK : List (List Nat) := [[40], [41], [44], [59], [58]]
def isL (c : Nat) : Bool := decide (c ∈ LT)
def isD (c : Nat) : Bool := decide (c ∈ DG)
theorem isL_iff {c : Nat} : isL c = true ↔ 97 ≤ c ∧ c ≤ 122 := by
  unfold isL
  rw [decide_eq_true_iff]
  simp only [LT, List.mem_cons, List.not_mem_nil, or_false]
  omega
theorem isD_iff {c : Nat} : isD c = true ↔ 48 ≤ c ∧ c ≤ 57 := by
  unfold isD
  rw [decide_eq_true_iff]
  simp only [DG, List.mem_cons, List.not_mem_nil, or_false]
  omega
/-- a sign or a mark -/
def inSM (p : List Nat) : Bool := decide (p ∈ SG) || decide (p ∈ MK)
/-- how long the token is with which a rest begins; 0: none -/
def tokLen : List Nat → Nat
  | [] => 0
  | c :: r => if isL c then ((c :: r).takeWhile isL).length else if isD c then ((c :: r).takeWhile isD).length
    else if c = 45 then (if (r.takeWhile isD).length = 0 then 0 else 1 + (r.takeWhile isD).length)
    else if inSM ((c :: r).take 2) then ((c :: r).take 2).length else if inSM [c] then 1 else 0
theorem tokLen_cons (c : Nat) (r : List Nat) : tokLen (c :: r) = if isL c then ((c :: r).takeWhile isL).length else if isD c then ((c :: r).takeWhile isD).length
    else if c = 45 then (if (r.takeWhile isD).length = 0 then 0 else 1 + (r.takeWhile isD).length)
    else if inSM ((c :: r).take 2) then ((c :: r).take 2).length else if inSM [c] then 1 else 0 := rfl
theorem ite_le {c : Prop} [Decidable c] {a b n : Nat} (h1 : a ≤ n) (h2 : b ≤ n) : (if c then a else b) ≤ n := by split <;> assumption
theorem tokLen_le : ∀ r : List Nat, tokLen r ≤ r.length
  | [] => Nat.le_refl _
  | c :: r => by
    have h1 : ∀ (f : Nat → Bool) (l : List Nat), (l.takeWhile f).length ≤ l.length := fun f l => (List.takeWhile_sublist f).length_le
    have a := h1 isL (c :: r)
    have b := h1 isD (c :: r)
    have d := h1 isD r
    have e : ((c :: r).take 2).length ≤ (c :: r).length := by rw [List.length_take]; omega
    have hn : (c :: r).length = r.length + 1 := List.length_cons
    exact ite_le a (ite_le b (ite_le (ite_le (by omega) (by omega)) (ite_le e (ite_le (by omega) (by omega)))))
/-- the tokens of a rest that begins at a column, or the column of the first strange sign -/
def splitN : Nat → List Nat → Nat → Except Nat (List (List Nat × Nat))
  | 0, _, _ => .ok []
  | _ + 1, [], _ => .ok []
  | n + 1, c :: r, col => if 0 < tokLen (c :: r) then
      (match splitN n ((c :: r).drop (tokLen (c :: r))) (col + tokLen (c :: r)) with
        | .ok l => .ok (((c :: r).take (tokLen (c :: r)), col) :: l)
        | .error e => .error e)
    else if c = 32 then splitN n r (col + 1) else .error col
def splitL (r : List Nat) (col : Nat) : Except Nat (List (List Nat × Nat)) := splitN r.length r col
theorem splitN_more : ∀ (n m : Nat) (r : List Nat) (col : Nat), r.length ≤ n → n ≤ m → splitN m r col = splitN n r col
  | 0, 0, _, _, _, _ => rfl
  | 0, m + 1, [], _, _, _ => rfl
  | 0, m + 1, c :: r, _, h, _ => absurd h (by simp)
  | n + 1, 0, _, _, _, h => absurd h (by omega)
  | n + 1, m + 1, [], _, _, _ => rfl
  | n + 1, m + 1, c :: r, col, h, h2 => by
    rw [List.length_cons] at h
    unfold splitN
    split
    · rename_i ht
      rw [splitN_more n m _ _ (by rw [List.length_drop, List.length_cons]; omega) (by omega)]
    · rw [splitN_more n m r _ (by omega) (by omega)]
theorem splitL_tok {r : List Nat} {col : Nat} (h : 0 < tokLen r) : splitL r col = match splitL (r.drop (tokLen r)) (col + tokLen r) with
    | .ok l => .ok ((r.take (tokLen r), col) :: l)
    | .error e => .error e := by
  cases r with
  | nil => exact absurd h (by simp [tokLen])
  | cons c r =>
    unfold splitL
    rw [List.length_cons]
    show splitN (r.length + 1) (c :: r) col = _
    rw [splitN, if_pos h, splitN_more _ r.length _ _ (Nat.le_refl _) (by rw [List.length_drop, List.length_cons]; omega)]
theorem splitL_space {r : List Nat} {col : Nat} : splitL (32 :: r) col = splitL r (col + 1) := by
  have h : tokLen (32 :: r) = 0 := by
    rw [tokLen_cons]
    rw [if_neg (by decide), if_neg (by decide), if_neg (by decide)]
    have : inSM ((32 :: r).take 2) = false := by
      cases r with
      | nil => decide
      | cons a r => simp [inSM]
    rw [this]
    rfl
  unfold splitL
  rw [List.length_cons]
  show splitN (r.length + 1) (32 :: r) col = _
  rw [splitN, if_neg (by rw [h]; decide), if_pos rfl]
theorem splitL_bad {c : Nat} {r : List Nat} {col : Nat} (h : tokLen (c :: r) = 0) (hc : c ≠ 32) : splitL (c :: r) col = .error col := by
  unfold splitL
  rw [List.length_cons]
  show splitN (r.length + 1) (c :: r) col = _
  rw [splitN, if_neg (by rw [h]; decide), if_neg hc]
theorem splitL_nil {col : Nat} : splitL [] col = .ok [] := rfl
theorem splitL_spaces : ∀ (g : Nat) {r : List Nat} {col : Nat}, splitL (List.replicate g 32 ++ r) col = splitL r (col + g)
  | 0, _, _ => rfl
  | g + 1, r, col => by
    rw [List.replicate_succ, List.cons_append, splitL_space, splitL_spaces g, show col + 1 + g = col + (g + 1) by omega]

/-! ### tokens -/
/-- a word, an integer, a sign, a mark -/
inductive Tok : List Nat → Prop where
  | word {p : List Nat} (h0 : p ≠ []) (h : ∀ c ∈ p, isL c = true) : Tok p
  | int {p : List Nat} (h0 : p ≠ []) (h : ∀ c ∈ p, isD c = true) : Tok p
  | neg {p : List Nat} (h0 : p ≠ []) (h : ∀ c ∈ p, isD c = true) : Tok (45 :: p)
  | sm {p : List Nat} (h : inSM p = true) : Tok p
/-- no token begins so: a strange sign, alone -/
def Strange (c : Nat) : Prop := isL c = false ∧ isD c = false ∧ c ≠ 32 ∧ inSM [c] = false
/-- two pieces that would run together -/
def touchB (p q : List Nat) : Bool :=
  (isL (p.getLastD 0) && isL (q.headD 0)) || (isD (q.headD 0) && (isD (p.getLastD 0) || decide (p = [45]))) || (decide (q.headD 0 = 61) && (decide (p = [60]) || decide (p = [62]) || decide (p = [33]) || decide (p = [61])))
/-- what stands behind a piece does not run together with it -/
def Sep (p s : List Nat) : Prop := ∀ c r, s = c :: r → c = 32 ∨ touchB p [c] = false
theorem takeWhile_app {f : Nat → Bool} : ∀ {p s : List Nat}, (∀ c ∈ p, f c = true) → (∀ c r, s = c :: r → f c = false) → (p ++ s).takeWhile f = p
  | [], [], _, _ => rfl
  | [], c :: r, _, h => by
    rw [List.nil_append, List.takeWhile_cons, h c r rfl]
    rfl
  | a :: p, s, h1, h2 => by
    rw [List.cons_append, List.takeWhile_cons, h1 a List.mem_cons_self, if_pos rfl, takeWhile_app (fun c hc => h1 c (List.mem_cons_of_mem _ hc)) h2]
theorem getLastD_mem : ∀ {p : List Nat}, p ≠ [] → p.getLastD 0 ∈ p
  | [], h => absurd rfl h
  | [a], _ => List.mem_cons_self
  | a :: b :: r, _ => List.mem_cons_of_mem _ (getLastD_mem (p := b :: r) (by simp))
theorem touch_l {p : List Nat} {c : Nat} (h0 : p ≠ []) (h : ∀ c ∈ p, isL c = true) (ht : touchB p [c] = false) : isL c = false := by
  unfold touchB at ht
  rw [h _ (getLastD_mem h0)] at ht
  cases hc : isL c with
  | false => rfl
  | true => rw [show [c].headD 0 = c from rfl, hc] at ht; simp at ht
theorem touch_d {p : List Nat} {c : Nat} (h0 : p ≠ []) (h : isD (p.getLastD 0) = true) (ht : touchB p [c] = false) : isD c = false := by
  unfold touchB at ht
  rw [h] at ht
  cases hc : isD c with
  | false => rfl
  | true => rw [show [c].headD 0 = c from rfl, hc] at ht; simp at ht
theorem ld_l {c : Nat} (h : isL c = true) : isD c = false ∧ c ≠ 45 ∧ c ≠ 32 := by
  rw [isL_iff] at h
  refine ⟨?_, by omega, by omega⟩
  cases hd : isD c with
  | false => rfl
  | true => rw [isD_iff] at hd; omega
theorem ld_d {c : Nat} (h : isD c = true) : isL c = false ∧ c ≠ 45 ∧ c ≠ 32 := by
  rw [isD_iff] at h
  refine ⟨?_, by omega, by omega⟩
  cases hd : isL c with
  | false => rfl
  | true => rw [isL_iff] at hd; omega
theorem sm_cases {p : List Nat} (h : inSM p = true) : p ∈ SG ++ MK := by
  unfold inSM at h
  rw [Bool.or_eq_true, decide_eq_true_iff, decide_eq_true_iff] at h
  exact List.mem_append.mpr h
theorem sm2 {c d : Nat} (h : inSM [c, d] = true) : d = 61 ∧ (c = 60 ∨ c = 61 ∨ c = 33 ∨ c = 62) := by
  have h := sm_cases h
  simp at h
  omega
/-- the token that stands ahead is read -/
theorem tokLen_tok {p s : List Nat} (h : Tok p) (hs : Sep p s) : tokLen (p ++ s) = p.length := by
  cases h with
  | word h0 h =>
    cases p with
    | nil => exact absurd rfl h0
    | cons c p =>
      have hc := h c List.mem_cons_self
      show tokLen (c :: (p ++ s)) = _
      rw [tokLen_cons]
      rw [if_pos hc, ← List.cons_append, takeWhile_app h fun d r e => ?_]
      rcases hs d r e with rfl | ht
      · rfl
      · exact touch_l h0 h ht
  | int h0 h =>
    cases p with
    | nil => exact absurd rfl h0
    | cons c p =>
      have hc := h c List.mem_cons_self
      have hn := ld_d hc
      show tokLen (c :: (p ++ s)) = _
      rw [tokLen_cons]
      rw [if_neg (by rw [hn.1]; decide), if_pos hc, ← List.cons_append, takeWhile_app h fun d r e => ?_]
      rcases hs d r e with rfl | ht
      · rfl
      · exact touch_d h0 (h _ (getLastD_mem h0)) ht
  | @neg p h0 h =>
    show tokLen (45 :: (p ++ s)) = _
    rw [tokLen_cons]
    rw [if_neg (by decide), if_neg (by decide), if_pos rfl, takeWhile_app h fun d r e => ?_]
    · rw [if_neg, List.length_cons]
      · omega
      · cases p with
        | nil => exact absurd rfl h0
        | cons a p => simp
    · rcases hs d r e with rfl | ht
      · rfl
      · refine touch_d (p := 45 :: p) (by simp) ?_ ht
        cases p with
        | nil => exact absurd rfl h0
        | cons a p => exact h _ (getLastD_mem (p := a :: p) (by simp))
  | sm h =>
    have hm := sm_cases h
    simp only [SG, MK, List.cons_append, List.nil_append, List.mem_cons, List.not_mem_nil, or_false] at hm
    have one : ∀ c : Nat, isL c = false → isD c = false → c ≠ 45 → inSM [c] = true → (∀ d r, s = d :: r → inSM [c, d] = false) → tokLen ([c] ++ s) = 1 := fun c h1 h2 h3 h4 h5 => by
      show tokLen (c :: s) = 1
      rw [tokLen_cons]
      rw [if_neg (by rw [h1]; decide), if_neg (by rw [h2]; decide), if_neg h3]
      cases s with
      | nil => rw [if_pos (by exact h4)]; rfl
      | cons d r => rw [if_neg (by rw [show (c :: d :: r).take 2 = [c, d] from rfl, h5 d r rfl]; decide), if_pos h4]
    have two : ∀ c d : Nat, isL c = false → isD c = false → c ≠ 45 → inSM [c, d] = true → tokLen ([c, d] ++ s) = 2 := fun c d h1 h2 h3 h4 => by
      show tokLen (c :: d :: s) = 2
      rw [tokLen_cons]
      rw [if_neg (by rw [h1]; decide), if_neg (by rw [h2]; decide), if_neg h3, if_pos (by exact h4)]
      rfl
    have mk : ∀ c : Nat, (c ≠ 60 ∧ c ≠ 61 ∧ c ≠ 33 ∧ c ≠ 62) → ∀ d r, s = d :: r → inSM [c, d] = false := fun c hc d r e => by
      cases q : inSM [c, d] with
      | false => rfl
      | true => have := sm2 q; omega
    have lg : ∀ c : Nat, (c = 60 ∨ c = 62) → p = [c] → ∀ d r, s = d :: r → inSM [c, d] = false := fun c hc hp d r e => by
      cases q : inSM [c, d] with
      | false => rfl
      | true =>
        have := (sm2 q).1
        subst this
        rcases hs _ r e with h | ht
        · exact absurd h (by decide)
        · rw [hp] at ht
          rcases hc with rfl | rfl <;> exact absurd ht (by decide)
    rcases hm with rfl | rfl | rfl | rfl | rfl | rfl | rfl | rfl | rfl | rfl | rfl
    · exact one 60 (by decide) (by decide) (by decide) (by decide) (lg 60 (.inl rfl) rfl)
    · exact two 60 61 (by decide) (by decide) (by decide) (by decide)
    · exact two 61 61 (by decide) (by decide) (by decide) (by decide)
    · exact two 33 61 (by decide) (by decide) (by decide) (by decide)
    · exact two 62 61 (by decide) (by decide) (by decide) (by decide)
    · exact one 62 (by decide) (by decide) (by decide) (by decide) (lg 62 (.inr rfl) rfl)
    all_goals exact one _ (by decide) (by decide) (by decide) (by decide) (mk _ (by decide))
/-- a strange sign is no token -/
theorem tokLen_strange {c : Nat} {s : List Nat} (h : Strange c) (hs : Sep [c] s) : tokLen (c :: s) = 0 := by
  obtain ⟨h1, h2, h3, h4⟩ := h
  rw [tokLen_cons]
  rw [if_neg (by rw [h1]; decide), if_neg (by rw [h2]; decide)]
  by_cases hc : c = 45
  · subst hc
    rw [if_pos rfl]
    have : (s.takeWhile isD).length = 0 := by
      cases s with
      | nil => rfl
      | cons d r =>
        have : isD d = false := by
          rcases hs d r rfl with rfl | ht
          · rfl
          · cases q : isD d with
            | false => rfl
            | true => unfold touchB at ht; rw [show [d].headD 0 = d from rfl, q] at ht; simp at ht
        rw [List.takeWhile_cons, this]
        rfl
    rw [this]
    rfl
  · rw [if_neg hc, if_neg, if_neg (by rw [h4]; decide)]
    cases s with
    | nil => rw [show [c].take 2 = [c] from rfl, h4]; decide
    | cons d r =>
      rw [show (c :: d :: r).take 2 = [c, d] from rfl]
      intro q
      have q2 := sm2 q
      obtain ⟨rfl, q2⟩ := q2
      rcases hs _ r rfl with h | ht
      · exact absurd h (by decide)
      · rcases q2 with rfl | rfl | rfl | rfl <;> first | exact absurd ht (by decide) | exact absurd h4 (by decide)

/-! ### a line that is laid out of pieces, each behind a gap -/
def lay : List (Nat × List Nat) → List Nat → List Nat
  | [], t => t
  | (g, p) :: r, t => List.replicate g 32 ++ (p ++ lay r t)
def cols : Nat → List (Nat × List Nat) → List Nat
  | _, [] => []
  | c, (g, p) :: r => (c + g) :: cols (c + g + p.length) r
/-- pieces that stand together do not run together -/
def Apart : List (Nat × List Nat) → Prop
  | [] => True
  | [_] => True
  | (_, p) :: (g, q) :: r => (g = 0 → touchB p q = false) ∧ q ≠ [] ∧ Apart ((g, q) :: r)
theorem touch_head {p q : List Nat} (h : q ≠ []) : ∃ c r, q = c :: r ∧ touchB p q = touchB p [c] := by
  cases q with
  | nil => exact absurd rfl h
  | cons c r => exact ⟨c, r, rfl, rfl⟩
theorem sep_lay {g : Nat} {p : List Nat} {r : List (Nat × List Nat)} {t : Nat} (h : Apart ((g, p) :: r)) : Sep p (lay r (List.replicate t 32)) := by
  intro c s e
  cases r with
  | nil =>
    cases t with
    | zero => cases e
    | succ t => simp only [lay, List.replicate_succ] at e; injection e with e1 e2; exact .inl e1.symm
  | cons x r =>
    obtain ⟨g', q⟩ := x
    obtain ⟨h1, h2, _⟩ := h
    cases g' with
    | succ g' =>
      rw [lay, List.replicate_succ, List.cons_append] at e
      injection e with e1 e2
      exact .inl e1.symm
    | zero =>
      obtain ⟨d, r', rfl, ht⟩ := touch_head (p := p) h2
      rw [lay, List.replicate_zero, List.nil_append, List.cons_append] at e
      injection e with e1 e2
      subst e1
      exact .inr (by rw [← ht]; exact h1 rfl)
theorem Apart.tail {x : Nat × List Nat} {r : List (Nat × List Nat)} (h : Apart (x :: r)) : Apart r := by
  cases r with
  | nil => trivial
  | cons y r => exact h.2.2
theorem tok_ne {p : List Nat} (h : Tok p) : p ≠ [] := by
  cases h with
  | word h0 _ => exact h0
  | int h0 _ => exact h0
  | neg h0 _ => simp
  | sm h => intro e; subst e; exact absurd h (by decide)
theorem split_lay {t : Nat} : ∀ {xs : List (Nat × List Nat)} {c : Nat}, Apart xs → (∀ x ∈ xs, Tok x.2) → splitL (lay xs (List.replicate t 32)) c = .ok ((xs.map (·.2)).zip (cols c xs))
  | [], c, _, _ => by
    have := splitL_spaces t (r := []) (col := c)
    rw [List.append_nil] at this
    rw [lay, this]
    rfl
  | (g, p) :: r, c, ha, ht => by
    have hp := ht (g, p) List.mem_cons_self
    have hl := tokLen_tok hp (sep_lay (t := t) ha)
    have hpos : 0 < p.length := List.length_pos_iff.mpr (tok_ne hp)
    rw [lay, splitL_spaces, splitL_tok (by rw [hl]; exact hpos), hl, List.drop_left, List.take_left, split_lay ha.tail fun x hx => ht x (List.mem_cons_of_mem _ hx)]
    rfl
theorem split_bad {t : Nat} : ∀ {xs ys : List (Nat × List Nat)} {g s c : Nat}, Apart (xs ++ (g, [s]) :: ys) → (∀ x ∈ xs, Tok x.2) → Strange s → ∃ e, splitL (lay (xs ++ (g, [s]) :: ys) (List.replicate t 32)) c = .error e ∧ (cols c (xs ++ (g, [s]) :: ys))[xs.length]? = some e
  | [], ys, g, s, c, ha, _, hs => by
    refine ⟨c + g, ?_, rfl⟩
    rw [List.nil_append, lay, splitL_spaces]
    exact splitL_bad (tokLen_strange hs (sep_lay (t := t) ha)) hs.2.2.1
  | (g', p) :: xs, ys, g, s, c, ha, ht, hs => by
    have hp := ht (g', p) List.mem_cons_self
    have hl : tokLen (p ++ lay (xs ++ (g, [s]) :: ys) (List.replicate t 32)) = p.length := tokLen_tok hp (sep_lay (t := t) ha)
    have hpos : 0 < p.length := List.length_pos_iff.mpr (tok_ne hp)
    obtain ⟨e, h1, h2⟩ := split_bad (t := t) (xs := xs) (ys := ys) (g := g) (s := s) (c := c + g' + p.length) ha.tail (fun x hx => ht x (List.mem_cons_of_mem _ hx)) hs
    refine ⟨e, ?_, h2⟩
    rw [List.cons_append, lay, splitL_spaces, splitL_tok (by rw [hl]; exact hpos), hl, List.drop_left, List.take_left, h1]
theorem lay_tail : ∀ {gs : List (Nat × List Nat)} {t : List Nat}, lay gs t = lay gs [] ++ t
  | [], _ => rfl
  | (g, p) :: r, t => by rw [lay, lay, lay_tail (gs := r) (t := t), List.append_assoc, List.append_assoc]
theorem lay_snoc : ∀ {gs : List (Nat × List Nat)} {g : Nat} {p : List Nat}, lay (gs ++ [(g, p)]) [] = lay gs [] ++ (List.replicate g 32 ++ p)
  | [], g, p => by simp [lay]
  | (g', p') :: r, g, p => by rw [List.cons_append, lay, lay_snoc (gs := r), lay, List.append_assoc, List.append_assoc]
theorem cols_snoc : ∀ {gs : List (Nat × List Nat)} {c g : Nat} {p : List Nat}, cols c (gs ++ [(g, p)]) = cols c gs ++ [c + (lay gs []).length + g]
  | [], c, g, p => by simp [lay, cols]
  | (g', p') :: r, c, g, p => by
    rw [List.cons_append, cols, cols_snoc (gs := r), cols, lay, List.cons_append]
    have : c + g' + p'.length + (lay r []).length + g = c + (List.replicate g' 32 ++ (p' ++ lay r [])).length + g := by
      rw [List.length_append, List.length_append, List.length_replicate]
      omega
    rw [this]
theorem apart_snoc : ∀ {gs : List (Nat × List Nat)} {g : Nat} {p : List Nat}, Apart gs → p ≠ [] → (∀ x, gs.getLast? = some x → g = 0 → touchB x.2 p = false) → Apart (gs ++ [(g, p)])
  | [], _, _, _, _, _ => trivial
  | [(g', q)], g, p, _, h0, h => ⟨fun e => h (g', q) rfl e, h0, trivial⟩
  | (g', q) :: (g2, q2) :: r, g, p, ha, h0, h => by
    obtain ⟨h1, h2, h3⟩ := ha
    exact ⟨h1, h2, apart_snoc h3 h0 fun x hx e => h x (by rw [List.getLast?_cons_cons]; exact hx) e⟩
theorem cols_len : ∀ {gs : List (Nat × List Nat)} {c : Nat}, (cols c gs).length = gs.length
  | [], _ => rfl
  | (g, p) :: r, c => by rw [cols, List.length_cons, cols_len, List.length_cons]
end El

set_option Elab.async false
set_option linter.all false
set_option maxRecDepth 100000
set_option maxHeartbeats 4000000
namespace K01
open PySem PySem.Spec PyProof.Rows L2 El NdefX
def topS (i : Nat) : Stmt := PySem.Challenge.pw_elseput_k01_tokens_of_a_line.main.body.getD i (.Pass ⟨0, 0, 0, 0⟩)
abbrev s_tokens : Stmt := topS 9
theorem sc_tokens : FnScope ["line"] ["line"] (defScope s_tokens) := ⟨rfl, rfl, rfl, by decide +kernel, rfl, by decide +kernel, by decide +kernel⟩

abbrev s_split_line : Stmt := topS 10
theorem sc_split_line : FnScope ["line", "number", "found", "at", "end"] ["line", "number"] (defScope s_split_line) := ⟨rfl, rfl, rfl, by decide +kernel, rfl, by decide +kernel, by decide +kernel⟩

abbrev s_token_end : Stmt := topS 11
theorem sc_token_end : FnScope ["line", "at", "piece", "end"] ["line", "at"] (defScope s_token_end) := ⟨rfl, rfl, rfl, by decide +kernel, rfl, by decide +kernel, by decide +kernel⟩

abbrev s_run_end : Stmt := topS 12
theorem sc_run_end : FnScope ["line", "at", "characters", "end"] ["line", "at", "characters"] (defScope s_run_end) := ⟨rfl, rfl, rfl, by decide +kernel, rfl, by decide +kernel, by decide +kernel⟩

abbrev s__law_state : Stmt := topS 14
theorem sc__law_state : FnScope ["_law_script"] ["_law_script"] (defScope s__law_state) := ⟨rfl, rfl, rfl, by decide +kernel, rfl, by decide +kernel, by decide +kernel⟩

abbrev s__law_draw : Stmt := topS 15
theorem sc__law_draw : FnScope ["_law_state_here", "_law_many", "_law_first", "_law_second", "_law_third", "_law_digit"] ["_law_state_here", "_law_many"] (defScope s__law_draw) := ⟨rfl, rfl, rfl, by decide +kernel, rfl, by decide +kernel, by decide +kernel⟩

abbrev s__law_pick : Stmt := topS 16
theorem sc__law_pick : FnScope ["_law_state_here", "_law_row"] ["_law_state_here", "_law_row"] (defScope s__law_pick) := ⟨rfl, rfl, rfl, by decide +kernel, rfl, by decide +kernel, by decide +kernel⟩

abbrev s__law_mixed : Stmt := topS 17
theorem sc__law_mixed : FnScope ["_law_state_here", "_law_row", "_law_rest", "_law_result", "_law_k", "_law_at"] ["_law_state_here", "_law_row"] (defScope s__law_mixed) := ⟨rfl, rfl, rfl, by decide +kernel, rfl, by decide +kernel, by decide +kernel⟩

abbrev s__law_is_int : Stmt := topS 18
theorem sc__law_is_int : FnScope ["_law_thing"] ["_law_thing"] (defScope s__law_is_int) := ⟨rfl, rfl, rfl, by decide +kernel, rfl, by decide +kernel, by decide +kernel⟩

abbrev s__law_same : Stmt := topS 19
theorem sc__law_same : FnScope ["_law_actual", "_law_due", "_law_k", "_law_key"] ["_law_actual", "_law_due"] (defScope s__law_same) := ⟨rfl, rfl, rfl, by decide +kernel, rfl, by decide +kernel, by decide +kernel⟩

abbrev s__law_reserved : Stmt := topS 20
theorem sc__law_reserved : FnScope ["_law_words"] [] (defScope s__law_reserved) := ⟨rfl, rfl, rfl, by decide +kernel, rfl, by decide +kernel, by decide +kernel⟩

abbrev s__law_word : Stmt := topS 21
theorem sc__law_word : FnScope ["_law_state_here", "_law_size", "_law_letters", "_law_word_here", "_law_code", "_law_k"] ["_law_state_here", "_law_size"] (defScope s__law_word) := ⟨rfl, rfl, rfl, by decide +kernel, rfl, by decide +kernel, by decide +kernel⟩

abbrev s__law_piece : Stmt := topS 22
theorem sc__law_piece : FnScope ["_law_state_here", "_law_kind", "_law_digits"] ["_law_state_here"] (defScope s__law_piece) := ⟨rfl, rfl, rfl, by decide +kernel, rfl, by decide +kernel, by decide +kernel⟩

abbrev s__law_touch : Stmt := topS 23
theorem sc__law_touch : FnScope ["_law_one", "_law_two", "_law_letters", "_law_digits"] ["_law_one", "_law_two"] (defScope s__law_touch) := ⟨rfl, rfl, rfl, by decide +kernel, rfl, by decide +kernel, by decide +kernel⟩

abbrev s__law_laid : Stmt := topS 24
theorem sc__law_laid : FnScope ["_law_state_here", "_law_pieces", "_law_line", "_law_columns", "_law_code", "_law_k", "_law_gap"] ["_law_state_here", "_law_pieces"] (defScope s__law_laid) := ⟨rfl, rfl, rfl, by decide +kernel, rfl, by decide +kernel, by decide +kernel⟩

abbrev s__law_split : Stmt := topS 25
theorem sc__law_split : FnScope ["_law_line", "e"] ["_law_line"] (defScope s__law_split) := ⟨rfl, rfl, rfl, by decide +kernel, rfl, by decide +kernel, by decide +kernel⟩

abbrev s_law : Stmt := topS 26
theorem sc_law : FnScope ["_law_script", "_law_state_here", "_law_others", "_law_pieces", "_law_due", "_law_k", "_law_strange", "_law_line", "_law_columns", "_law_told", "_law_spot", "_law_spoiled", "_law_at"] ["_law_script"] (defScope s_law) := ⟨rfl, rfl, rfl, by decide +kernel, rfl, by decide +kernel, by decide +kernel⟩

abbrev s_BadName : Stmt := mthS (topS 2) 0
theorem sc_BadName : NdefX.NScope ["self", "name", "__class__"] ["self", "name"] ["__class__"] (defScope s_BadName) := NdefX.nscope_by (by decide +kernel)
abbrev s_BadText : Stmt := mthS (topS 3) 0
theorem sc_BadText : NdefX.NScope ["self", "line", "column", "__class__"] ["self", "line", "column"] ["__class__"] (defScope s_BadText) := NdefX.nscope_by (by decide +kernel)
section
variable {P : Program} {w : World} {K : PySem.W.Frag} {mg : Str → Option Value} {base : Heap}
variable {t_DIGITS t_LETTERS : Tok} {a_MARKS a_SIGNS a_BadName a_BadText a_ElseputError : Addr}
structure Gs (K : PySem.W.Frag) (mg : Str → Option Value) (t_DIGITS t_LETTERS : Tok) (a_MARKS a_SIGNS a_BadName a_BadText a_ElseputError : Addr) : Prop where
  z_ValueError : mg "ValueError" = none
  z_bool : mg "bool" = none
  z_dict : mg "dict" = none
  z_int : mg "int" = none
  z_isinstance : mg "isinstance" = none
  z_len : mg "len" = none
  z_list : mg "list" = none
  z_range : mg "range" = none
  z_str : mg "str" = none
  z_super : mg "super" = none
  z_tuple : mg "tuple" = none
  g_DIGITS : mg "DIGITS" = some (.str "0123456789" t_DIGITS)
  g_LETTERS : mg "LETTERS" = some (.str "abcdefghijklmnopqrstuvwxyz" t_LETTERS)
  g_MARKS : mg "MARKS" = some (.ref a_MARKS)
  q_MARKS : ∀ H, SqT K H a_MARKS [(.str "("), (.str ")"), (.str ","), (.str ";"), (.str ":")]
  g_SIGNS : mg "SIGNS" = some (.ref a_SIGNS)
  q_SIGNS : ∀ H, SqT K H a_SIGNS [(.str "<"), (.str "<="), (.str "=="), (.str "!="), (.str ">="), (.str ">")]
  g_BadName : mg "BadName" = some (.ref a_BadName)
  n_BadName : PySem.W.nsIn K mainGlobals "BadName" = some (some (.ref a_BadName))
  x_BadName : ExV K a_BadName ["name"]
  g_BadText : mg "BadText" = some (.ref a_BadText)
  n_BadText : PySem.W.nsIn K mainGlobals "BadText" = some (some (.ref a_BadText))
  x_BadText : ExV K a_BadText ["line", "column"]
  g_ElseputError : mg "ElseputError" = some (.ref a_ElseputError)
  n_ElseputError : PySem.W.nsIn K mainGlobals "ElseputError" = some (some (.ref a_ElseputError))
  m_BadText_ElseputError : PySem.W.exmOne K (.ref a_BadText) (.ref a_ElseputError) = some true
  k_BadText_BadText : PySem.W.kitOne K (.ref a_BadText) (.ref a_BadText) = some true
  k_BadText_ValueError : PySem.W.kitOne K (.ref a_BadText) (.type "ValueError") = some true
  k_BadText_BadName : PySem.W.kitOne K (.ref a_BadText) (.ref a_BadName) = some false
/-! ### the script's state -/
def stv (scr : Addr) (i v m c : Int) : List V := [.ref scr, .int i, .int v, .int m, .int c]
def DrAt (H : Hp) (st scr : Addr) : Prop := ∃ (ns : List Int) (i v m c : Int), H st = some (.lst (stv scr i v m c)) ∧ H scr = some (.lst (ns.map V.int)) ∧ ns.length ≤ 63 ∧ 0 ≤ i
theorem DrAt.ne {H : Hp} {st scr : Addr} {ns : List Int} {i v m c : Int} (h : H st = some (.lst (stv scr i v m c))) (h2 : H scr = some (.lst (ns.map V.int))) : scr ≠ st := by
  refine ne_of h2 h fun e => ?_
  injection e with e
  cases ns with
  | nil => simp [stv] at e
  | cons a r => simp [stv] at e
theorem DrAt.upd {H : Hp} {st scr : Addr} {ns : List Int} {i v m c i' v' m' c' : Int} (h : H st = some (.lst (stv scr i v m c))) (h2 : H scr = some (.lst (ns.map V.int))) (hl : ns.length ≤ 63) (h0 : 0 ≤ i') : DrAt (upd H st (.lst (stv scr i' v' m' c'))) st scr :=
  ⟨ns, i', v', m', c', upd_same, by rw [upd_ne (DrAt.ne h h2)]; exact h2, hl, h0⟩
theorem upd_id {H : Hp} {a : Addr} {o : HO} (h : H a = some o) : upd H a o = H := by
  funext b
  unfold L2.upd
  split
  · rename_i e; rw [e, h]
  · rfl
theorem DrAt.lst {H : Hp} {st scr : Addr} (h : DrAt H st scr) : ∃ l, H st = some (.lst l) := by
  obtain ⟨ns, i, v, m, c, h, _⟩ := h
  exact ⟨_, h⟩
theorem DrAt.new {H H' : Hp} {st scr : Addr} (h : DrAt H st scr) (s : Same H H') : DrAt H' st scr := by
  obtain ⟨ns, i, v, m, c, h1, h2, h3⟩ := h
  exact ⟨ns, i, v, m, c, s _ _ h1, s _ _ h2, h3⟩
theorem DrAt.at {H : Hp} {st scr p : Addr} {o : HO} (h : DrAt H st scr) (h1 : p ≠ st) (h2 : p ≠ scr) : DrAt (L2.upd H p o) st scr := by
  obtain ⟨ns, i, v, m, c, e1, e2, h3⟩ := h
  exact ⟨ns, i, v, m, c, by rw [upd_ne h1.symm]; exact e1, by rw [upd_ne h2.symm]; exact e2, h3⟩
theorem same_new {H : Hp} {p : Addr} {o : HO} (h : H p = none) : Same H (upd H p o) := fun b u q => by rw [upd_ne (ne_of_none q h)]; exact q
theorem free_new {H : Hp} {p q : Addr} {o : HO} (h : upd H p o q = none) : H q = none := by
  unfold L2.upd at h
  split at h
  · cases h
  · exact h
theorem new_ne {H : Hp} {p q : Addr} {o : HO} (h : upd H p o q = none) : q ≠ p := fun e => by rw [e, upd_same] at h; cases h
theorem len_add (a b : Str) : (a ++ b).length = a.length + b.length := by
  show (a.cps ++ b.cps).size = _
  rw [Array.size_append]
  rfl
theorem cps_add (a b : Str) : (a ++ b).cps.toList = a.cps.toList ++ b.cps.toList := by
  show (a.cps ++ b.cps).toList = _
  rw [Array.toList_append]
theorem len_cps (z : Str) : z.cps.toList.length = z.length := Array.length_toList
theorem line_of {n : Nat} (h : n ≤ 100000) : n ≤ sizeLine := Nat.le_trans h (by decide)
theorem line_lt {n : Nat} (h : n < 100000) : n < sizeLine := Nat.lt_of_lt_of_le h (by decide)
/-- all that stood stands, st's own numbers aside -/
def Bt (st : Addr) (H H' : Hp) : Prop := ∀ b o, b ≠ st → H b = some o → H' b = some o
theorem Bt.refl (st : Addr) (H : Hp) : Bt st H H := fun _ _ _ h => h
theorem Bt.trans {st : Addr} {H H1 H2 : Hp} (a : Bt st H H1) (b : Bt st H1 H2) : Bt st H H2 := fun c o n h => b c o n (a c o n h)
theorem Bt.same {st : Addr} {H H' : Hp} (s : Same H H') : Bt st H H' := fun b o _ h => s b o h
theorem Bt.st {st : Addr} {H : Hp} {o : HO} : Bt st H (upd H st o) := fun b u n h => by rw [upd_ne n]; exact h
theorem Bt.free {st : Addr} {H H' : Hp} (s : Bt st H H') {l : Addr} (n : l ≠ st) (h : H' l = none) : H l = none := by
  cases q : H l with
  | none => rfl
  | some o => rw [s l o n q] at h; cases h
theorem DrAt.ne_new {H : Hp} {st scr p : Addr} (h : DrAt H st scr) (n : H p = none) : p ≠ st := by
  obtain ⟨l, e⟩ := h.lst
  exact (ne_of_none e n).symm

theorem DrAt.ne_scr {H : Hp} {st scr p : Addr} (h : DrAt H st scr) (n : H p = none) : p ≠ scr := by
  obtain ⟨ns, i, v, m, c, e1, e2, h3⟩ := h
  exact (ne_of_none e2 n).symm

def sp__law_draw (K : PySem.W.Frag) : Sp := fun vs H Q _ => ∃ (st scr : Addr) (many : Int), vs = [.ref st, .int many] ∧ DrAt H st scr ∧ 0 < many ∧ many.natAbs < 2 ^ 200 ∧
  ∀ (r : Int) (l : List V), 0 ≤ r → r < many → DrAt (upd H st (.lst l)) st scr → Q (.int r) (upd H st (.lst l))
theorem len__law_draw {vs : List V} {H : Hp} {Q : VK} {E : XK} (h : sp__law_draw K vs H Q E) : vs.length = 2 := by
  obtain ⟨_, _, _, rfl, _⟩ := h
  rfl
theorem ok__law_draw {f : Addr} {fd : FuncData} (F : Fun K "_law_draw" "_law_draw" s__law_draw f fd) (T : Gs K mg t_DIGITS t_LETTERS a_MARKS a_SIGNS a_BadName a_BadText a_ElseputError) : FnOk P w K mg base CX0 1 f fd ["_law_state_here", "_law_many"] (sp__law_draw K) := by
  refine F.ok sc__law_draw (fun vs H Q E h => len__law_draw h) (fun cdv A outer s H vs Q E hr h => ?_)
  obtain ⟨st, scr, many, rfl, ⟨ns, i, v, m, c, hst, hscr, hl, h0⟩, hm0, hm1, q⟩ := h
  have hne := DrAt.ne hst hscr
  refine ⟨_, (Evl.pss_cut (ps_if (pt_c (eqK K hr.units) (e_x K (v_ 0) pe_int) pe_int) (pss_cons (ps_if (pt_c op_geM (e_x K (v_ 0) pe_int) (pe_callB (lenK K) (by rfl) T.z_len PySem.boot_len (pa_cons (e_x K (v_ 0) pe_int) pa_nil))) (pss_one (ps_ret pe_int)) pss_nil) (pss_cons (ps_asg (pe_callTy call_intM (by rfl) T.z_int (by decide +kernel) (pa_cons (e_x K (e_x K (v_ 0) pe_int) (e_x K (v_ 0) pe_int)) pa_nil)) (pg_sub (v_ 0) pe_int set_list)) (pss_cons (ps_asg (pe_op (addK K) (e_x K (v_ 0) pe_int) pe_int) (pg_sub (v_ 0) pe_int set_list)) (pss_cons (ps_asg pe_int (pg_sub (v_ 0) pe_int set_list)) (pss_cons (ps_asg pe_int (pg_sub (v_ 0) pe_int set_list)) (pss_one (ps_if (pt_c op_ltM (e_x K (v_ 0) pe_int) (pe_op op_powM pe_int pe_int)) (pss_one (ps_asg pe_int (pg_sub (v_ 0) pe_int set_list))) pss_nil))))))) pss_nil) (pss_cons (ps_asg (pe_op (addK K) (e_x K (v_ 0) pe_int) pe_int) (pg_sub (v_ 0) pe_int set_list)) (pss_cons (ps_if (pt_c (eqK K hr.units) (e_x K (v_ 0) pe_int) pe_int) (pss_cons (ps_set (i := 5) sc__law_draw.nd rfl (.inl rfl) (pe_op op_modM (pe_callTy call_intM (by rfl) T.z_int (by decide +kernel) (pa_cons (e_x K (v_ 0) pe_int) pa_nil)) (v_ 1))) (pss_cons (ps_asg (pe_op op_divM (pe_callTy call_intM (by rfl) T.z_int (by decide +kernel) (pa_cons (e_x K (v_ 0) pe_int) pa_nil)) (v_ 1)) (pg_sub (v_ 0) pe_int set_list)) (Evl.pss_cut (ps_if (PW.pt (pw_or (pt_c (eqK K hr.units) (e_x K (v_ 0) pe_int) pe_int) (pw_or1 (pt_c op_geM (e_x K (v_ 0) pe_int) pe_int)))) (pss_one (ps_asg pe_int (pg_sub (v_ 0) pe_int set_list))) pss_nil) (pss_one (ps_ret (v_ 5)))))) pss_nil) (pss_cons (ps_set (i := 2) sc__law_draw.nd rfl (.inl rfl) (pe_op op_modM (pe_callTy call_intM (by rfl) T.z_int (by decide +kernel) (pa_cons (pe_op (addK K) (pe_op op_mulSM (e_x K (v_ 0) pe_int) pe_int) (pe_op op_mulSM (e_x K (v_ 0) pe_int) pe_int)) pa_nil)) pe_int)) (pss_cons (ps_set (i := 3) sc__law_draw.nd rfl (.inl rfl) (pe_op op_modM (pe_callTy call_intM (by rfl) T.z_int (by decide +kernel) (pa_cons (pe_op (addK K) (pe_op (addK K) (pe_op op_mulSM (v_ 2) (v_ 2)) (pe_op op_mulSM (e_x K (v_ 0) pe_int) pe_int)) pe_int) pa_nil)) pe_int)) (Evl.pss_cut (ps_if (pt_c op_geM (e_x K (v_ 0) pe_int) pe_int) (pss_one (ps_asg pe_int (pg_sub (v_ 0) pe_int set_list))) pss_nil) (pss_cons (ps_set (i := 4) sc__law_draw.nd rfl (.inl rfl) (pe_op op_modM (pe_callTy call_intM (by rfl) T.z_int (by decide +kernel) (pa_cons (pe_op (addK K) (pe_op op_mulSM (v_ 3) pe_int) (v_ 2)) pa_nil)) pe_int)) (pss_one (ps_ret (pe_op op_modM (pe_callTy call_intM (by rfl) T.z_int (by decide +kernel) (pa_cons (v_ 4) pa_nil)) (v_ 1))))))))))), ?_⟩
  refine ⟨fun σ' H' => σ' = [some (.ref st), some (.int many), none, none, none, none] ∧ ∃ i v m c, H' = upd H st (.lst (stv scr i v m c)) ∧ 0 ≤ i, ?_, ?_⟩
  · refine ⟨_, .inl (SqL.of hst), _, rfl, ?_⟩
    refine ite2 (fun e => ?_) (fun e => ?_)
    · refine ⟨_, .inl (SqL.of hst), _, rfl, _, .inl (SqL.of hst), _, rfl, .inl ⟨_, .inl (SqL.of hscr), ?_⟩⟩
      refine ite2 (fun e1 => ?_) (fun e1 => ?_)
      · have z := q 0 (stv scr i v m c) (by omega) hm0 (DrAt.upd hst hscr hl h0)
        rw [upd_id hst] at z
        exact z
      · have e2 := of_decide_eq_false (Bool.eq_false_iff.mpr e1)
        rw [List.length_map] at e2
        obtain ⟨z, hz⟩ : ∃ z, atI (ns.map V.int) i = some (.int z) := by
          have hi : i.toNat < ns.length := by omega
          refine ⟨ns[i.toNat], ?_⟩
          have hq : atI (ns.map V.int) ((i.toNat : Nat) : Int) = some (.int ns[i.toNat]) := atI_nat (by rw [List.getElem?_map, List.getElem?_eq_getElem hi]; rfl)
          rwa [show ((i.toNat : Nat) : Int) = i by omega] at hq
        refine ⟨_, .inl (SqL.of hst), _, rfl, _, .inl (SqL.of hst), _, rfl, _, .inl (SqL.of hscr), _, hz, ?_⟩
        refine ⟨_, _, _, 2, rfl, rfl, hst, rfl, ?_⟩
        refine ⟨_, .inl (SqL.of upd_same), _, rfl, ?_⟩
        refine ⟨_, _, _, 1, rfl, rfl, upd_same, rfl, ?_⟩
        refine ⟨_, _, _, 3, rfl, rfl, upd_same, rfl, ?_⟩
        refine ⟨_, _, _, 4, rfl, rfl, upd_same, rfl, ?_⟩
        refine ⟨_, .inl (SqL.of upd_same), _, rfl, (by unfold CPow; decide), ?_⟩
        refine ite2 (fun e3 => ?_) (fun e3 => ?_)
        · refine ⟨_, _, _, 3, rfl, rfl, upd_same, rfl, rfl, i + 1, z, 2, 0, ?_, by omega⟩
          rw [upd_upd, upd_upd, upd_upd, upd_upd]
          rfl
        · refine ⟨rfl, i + 1, z, 1, 0, ?_, by omega⟩
          rw [upd_upd, upd_upd, upd_upd]
          rfl
    · exact ⟨rfl, i, v, m, c, (upd_id hst).symm, h0⟩
  · rintro σ' H' ⟨rfl, i, v, m, c, rfl, h0⟩
    have hscr' : ∀ o, upd H st o scr = some (.lst (ns.map V.int)) := fun o => by rw [upd_ne hne]; exact hscr
    refine ⟨_, .inl (SqL.of upd_same), _, rfl, ?_⟩
    refine ⟨_, _, _, 4, rfl, rfl, upd_same, rfl, ?_⟩
    rw [upd_upd]
    refine ⟨_, .inl (SqL.of upd_same), _, rfl, ?_⟩
    refine ite2 (fun e => ?_) (fun e => ?_)
    · refine ⟨_, .inl (SqL.of upd_same), _, rfl, hm0, ?_⟩
      refine ⟨_, .inl (SqL.of upd_same), _, rfl, .inr (wide_div hm0 (b := 200) hm1 (by decide) (by decide)), ?_⟩
      refine ⟨_, _, _, 2, rfl, rfl, upd_same, rfl, ?_⟩
      rw [upd_upd]
      have fin : ∀ m' : Int, Q (.int (v % many)) (upd H st (.lst (stv scr i (v / many) m' (c + 1)))) := fun m' => q _ _ (Int.emod_nonneg _ (by omega)) (Int.emod_lt_of_pos _ hm0) (DrAt.upd hst hscr hl h0)
      refine ⟨fun σ' H' => σ' = [some (.ref st), some (.int many), none, none, none, some (.int (v % many))] ∧ ∃ m', H' = upd H st (.lst (stv scr i (v / many) m' (c + 1))), ?_, ?_⟩
      · refine ⟨_, .inl (SqL.of upd_same), _, rfl, ?_⟩
        refine ite2 (fun e1 => ?_) (fun e1 => ?_)
        · refine ⟨_, _, _, 3, rfl, rfl, upd_same, rfl, rfl, 0, ?_⟩
          rw [upd_upd]
          rfl
        · refine ⟨_, .inl (SqL.of upd_same), _, rfl, ?_⟩
          refine ite2 (fun e1 => ?_) (fun e1 => ?_)
          · refine ⟨_, _, _, 3, rfl, rfl, upd_same, rfl, rfl, 0, ?_⟩
            rw [upd_upd]
            rfl
          · exact ⟨rfl, m, rfl⟩
      · rintro σ' H' ⟨rfl, m', rfl⟩
        exact fin m'
    · refine ⟨_, .inl (SqL.of upd_same), _, rfl, .inl (.inr ⟨by decide, by decide⟩), ?_⟩
      refine ⟨_, .inl (SqL.of upd_same), _, rfl, .inl (.inr ⟨by decide, by decide⟩), (by decide), ?_⟩
      have f0 := Int.emod_nonneg (v * 48271 + (c + 1) * 69621) (by decide : (2147483647 : Int) ≠ 0)
      have f1 := Int.emod_lt_of_pos (v * 48271 + (c + 1) * 69621) (by decide : (0 : Int) < 2147483647)
      refine ⟨.inl (.inl ⟨by omega, by omega⟩), ?_⟩
      refine ⟨_, .inl (SqL.of upd_same), _, rfl, .inl (.inr ⟨by decide, by decide⟩), (by decide), ?_⟩
      have fin : ∀ (m' x : Int), Q (.int (x % many)) (upd H st (.lst (stv scr i v m' (c + 1)))) := fun m' x => q _ _ (Int.emod_nonneg _ (by omega)) (Int.emod_lt_of_pos _ hm0) (DrAt.upd hst hscr hl h0)
      refine ⟨fun σ' H' => (∃ a b, σ' = [some (.ref st), some (.int many), some (.int a), some (.int b), none, none]) ∧ ∃ m', H' = upd H st (.lst (stv scr i v m' (c + 1))), ?_, ?_⟩
      · refine ⟨_, .inl (SqL.of upd_same), _, rfl, ?_⟩
        refine ite2 (fun e1 => ?_) (fun e1 => ?_)
        · refine ⟨_, _, _, 3, rfl, rfl, upd_same, rfl, ⟨_, _, rfl⟩, 0, ?_⟩
          rw [upd_upd]
          rfl
        · exact ⟨⟨_, _, rfl⟩, m, rfl⟩
      · rintro σ' H' ⟨⟨a, b, rfl⟩, m', rfl⟩
        refine ⟨.inl (.inr ⟨by decide, by decide⟩), (by decide), hm0, ?_⟩
        exact fin m' _

/-! ### _law_state -/
def sp__law_state (K : PySem.W.Frag) : Sp := fun vs H Q _ => ∃ (a : Addr) (ns : List Int), vs = [.ref a] ∧ SqL K H a (ns.map V.int) ∧ ns.length ≤ 63 ∧
  ∀ (H' : Hp) (st scr : Addr), Same H H' → H st = none → H scr = none → DrAt H' st scr → Q (.ref st) H'
theorem len__law_state {vs : List V} {H : Hp} {Q : VK} {E : XK} (h : sp__law_state K vs H Q E) : vs.length = 1 := by
  obtain ⟨_, _, rfl, _⟩ := h
  rfl
theorem ok__law_state {f : Addr} {fd : FuncData} (F : Fun K "_law_state" "_law_state" s__law_state f fd) (T : Gs K mg t_DIGITS t_LETTERS a_MARKS a_SIGNS a_BadName a_BadText a_ElseputError) : FnOk P w K mg base CX0 1 f fd ["_law_script"] (sp__law_state K) := by
  refine F.ok sc__law_state (fun vs H Q E h => len__law_state h) (fun cdv A outer s H vs Q E hr h => ?_)
  obtain ⟨a, ns, rfl, hS, hl, q⟩ := h
  refine ⟨_, (pss_one (ps_ret (pe_lst (pa_cons (pe_callTy (listK K) (by rfl) T.z_list (by decide +kernel) (pa_cons (v_ 0) pa_nil)) (pa_cons pe_int (pa_cons pe_int (pa_cons pe_int (pa_cons pe_int pa_nil)))))))), ?_⟩
  refine ⟨_, _, rfl, .inl hS, fun l nl => ?_⟩
  refine ⟨(by show 5 ≤ sizeLine; decide), fun st nst => ?_⟩
  have hne := new_ne nst
  refine q _ st l ((same_new nl).trans (same_new nst)) (free_new nst) nl ⟨ns, 0, 0, 0, 0, upd_same, ?_, hl, by omega⟩
  rw [upd_ne hne.symm, upd_same]

/-! ### _law_pick -/
theorem at_list {α : Type} {xs : List α} {r : Int} (h0 : 0 ≤ r) (h1 : r < xs.length) : ∃ x, atI xs r = some x ∧ x ∈ xs := by
  have hi : r.toNat < xs.length := by omega
  refine ⟨xs[r.toNat], ?_, List.getElem_mem hi⟩
  have hq : atI xs ((r.toNat : Nat) : Int) = some xs[r.toNat] := atI_nat (List.getElem?_eq_getElem hi)
  rwa [show ((r.toNat : Nat) : Int) = r by omega] at hq
theorem at_str {z : Str} {r : Int} (h0 : 0 ≤ r) (h1 : r < z.length) : ∃ c, atI z.cps.toList r = some c ∧ c ∈ z.cps.toList := at_list h0 (by rw [len_cps]; exact h1)
theorem many_small {m : Int} (h0 : 0 < m) (h1 : m ≤ 1000000000) : m.natAbs < 2 ^ 200 := Nat.lt_of_le_of_lt (show m.natAbs ≤ 2 ^ 30 by omega) (Nat.pow_lt_pow_right (by decide) (by decide))
def sp__law_pick (K : PySem.W.Frag) : Sp := fun vs H Q _ => ∃ (st scr : Addr) (v : V), vs = [.ref st, v] ∧ DrAt H st scr ∧
  ((∃ z : Str, v = .str z ∧ 0 < z.length ∧ z.length ≤ 1000 ∧ ∀ (c : Nat) (l : List V), c ∈ z.cps.toList → DrAt (upd H st (.lst l)) st scr → Q (.str ⟨#[c]⟩) (upd H st (.lst l))) ∨
    ∃ (p : Addr) (xs : List V), v = .ref p ∧ H p = some (.lst xs) ∧ p ≠ st ∧ 0 < xs.length ∧ xs.length ≤ 1000 ∧ ∀ (x : V) (l : List V), x ∈ xs → DrAt (upd H st (.lst l)) st scr → Q x (upd H st (.lst l)))
theorem len__law_pick {vs : List V} {H : Hp} {Q : VK} {E : XK} (h : sp__law_pick K vs H Q E) : vs.length = 2 := by
  obtain ⟨_, _, _, rfl, _⟩ := h
  rfl
theorem ok__law_pick {f : Addr} {fd : FuncData} {f__law_draw : Addr} {fd__law_draw : FuncData} (F : Fun K "_law_pick" "_law_pick" s__law_pick f fd) (T : Gs K mg t_DIGITS t_LETTERS a_MARKS a_SIGNS a_BadName a_BadText a_ElseputError) (c__law_draw : Cal P w K mg base CX0 1 "_law_draw" f__law_draw fd__law_draw ["_law_state_here", "_law_many"] (sp__law_draw K)) : FnOk P w K mg base CX0 2 f fd ["_law_state_here", "_law_row"] (sp__law_pick K) := by
  refine F.ok sc__law_pick (fun vs H Q E h => len__law_pick h) (fun cdv A outer s H vs Q E hr h => ?_)
  obtain ⟨st, scr, v, rfl, hd, h⟩ := h
  refine ⟨_, (pss_one (ps_ret (e_x K (v_ 1) (pe_call c__law_draw.G (hr.mono (by first | decide | omega)) rfl c__law_draw.m c__law_draw.kp c__law_draw.b .nil pass0 (pa_cons (v_ 0) (pa_cons (pe_callB (lenK K) (by rfl) T.z_len PySem.boot_len (pa_cons (v_ 1) pa_nil)) pa_nil)))))), ?_⟩
  rcases h with ⟨z, rfl, h0, h1, q⟩ | ⟨p, xs, rfl, hp, hne, h0, h1, q⟩
  · refine ⟨line_of (by omega), st, scr, _, rfl, hd, by omega, many_small (by omega) (by omega), fun r l r0 r1 hd' => ?_⟩
    obtain ⟨c, hc, hm⟩ := at_str r0 r1
    exact ⟨line_of (by omega), c, hc, q c l hm hd'⟩
  · refine .inl ⟨_, .inl (SqL.of hp), st, scr, _, rfl, hd, by omega, many_small (by omega) (by omega), fun r l r0 r1 hd' => ?_⟩
    obtain ⟨x, hx, hm⟩ := at_list r0 r1
    exact ⟨_, .inl (SqL.of (by rw [upd_ne hne]; exact hp)), x, hx, q x l hm hd'⟩

/-! ### _law_mixed -/
theorem cutV_take (xs : List V) {k : Int} (h : 0 ≤ k) : cutV xs none (some k) = xs.take k.toNat := by
  unfold cutV
  have e := HT.sIx_nat xs.length xs.length k.toNat
  rw [show ((k.toNat : Nat) : Int) = k by omega] at e
  rw [e, HT.sIx_none, List.drop_zero]
  by_cases hk : k.toNat ≤ xs.length
  · rw [Nat.min_eq_left hk, Nat.sub_zero]
  · rw [Nat.min_eq_right (by omega), Nat.sub_zero, List.take_length, List.take_of_length_le (by omega)]
theorem cutV_drop (xs : List V) {k : Int} (h : 0 ≤ k) : cutV xs (some k) none = xs.drop k.toNat := by
  unfold cutV
  have e := HT.sIx_nat xs.length 0 k.toNat
  rw [show ((k.toNat : Nat) : Int) = k by omega] at e
  rw [e, HT.sIx_none]
  by_cases hk : k.toNat ≤ xs.length
  · rw [Nat.min_eq_left hk, List.take_of_length_le (by rw [List.length_drop]; omega)]
  · rw [Nat.min_eq_right (by omega), List.drop_of_length_le (Nat.le_refl _), List.drop_of_length_le (by omega)]
    exact List.take_nil
def sp__law_mixed (K : PySem.W.Frag) : Sp := fun vs H Q _ => ∃ (st scr p : Addr) (xs : List V), vs = [.ref st, .ref p] ∧ DrAt H st scr ∧ H p = some (.lst xs) ∧ p ≠ st ∧ xs.length ≤ 1000 ∧
  ∀ (H' : Hp) (r : Addr) (ys : List V), Bt st H H' → DrAt H' st scr → H r = none → H' r = some (.lst ys) → ys.length = xs.length → (∀ y ∈ ys, y ∈ xs) → Q (.ref r) H'
theorem len__law_mixed {vs : List V} {H : Hp} {Q : VK} {E : XK} (h : sp__law_mixed K vs H Q E) : vs.length = 2 := by
  obtain ⟨_, _, _, _, rfl, _⟩ := h
  rfl
theorem ok__law_mixed {f : Addr} {fd : FuncData} {f__law_draw : Addr} {fd__law_draw : FuncData} (F : Fun K "_law_mixed" "_law_mixed" s__law_mixed f fd) (T : Gs K mg t_DIGITS t_LETTERS a_MARKS a_SIGNS a_BadName a_BadText a_ElseputError) (c__law_draw : Cal P w K mg base CX0 1 "_law_draw" f__law_draw fd__law_draw ["_law_state_here", "_law_many"] (sp__law_draw K)) : FnOk P w K mg base CX0 2 f fd ["_law_state_here", "_law_row"] (sp__law_mixed K) := by
  refine F.ok sc__law_mixed (fun vs H Q E h => len__law_mixed h) (fun cdv A outer s H vs Q E hr h => ?_)
  obtain ⟨st, scr, p, xs, rfl, hd, hp, hne, hl, q⟩ := h
  refine ⟨_, (pss_cons (ps_set (i := 2) sc__law_mixed.nd rfl (.inl rfl) (pe_callTy (listK K) (by rfl) T.z_list (by decide +kernel) (pa_cons (v_ 1) pa_nil))) (pss_cons (ps_set (i := 3) sc__law_mixed.nd rfl (.inl rfl) (pe_lst pa_nil)) (pss_cons (ps_for PassesOwn.never rfl (pi_range1 rfl T.z_range (pa_cons (pe_callB (lenK K) (by rfl) T.z_len PySem.boot_len (pa_cons (v_ 1) pa_nil)) pa_nil)) (pg_name (i := 4) sc__law_mixed.nd rfl (.inl rfl)) (pss_cons (ps_set (i := 5) sc__law_mixed.nd rfl (.inl rfl) (pe_call c__law_draw.G (hr.mono (by first | decide | omega)) rfl c__law_draw.m c__law_draw.kp c__law_draw.b .nil pass0 (pa_cons (v_ 0) (pa_cons (pe_callB (lenK K) (by rfl) T.z_len PySem.boot_len (pa_cons (v_ 2) pa_nil)) pa_nil)))) (pss_cons (ps_expr (pe_bm PySem.F.plainAttrs_list PySem.F.slot_list_append PySem.F.type_list_append mt_append (v_ 3) (pa_cons (e_x K (v_ 2) (v_ 5)) pa_nil))) (pss_one (ps_set (i := 2) sc__law_mixed.nd rfl (.inl rfl) (pe_op (addK K) (pe_slice (slK K) (v_ 2) po_none (po_some (v_ 5))) (pe_slice (slK K) (v_ 2) (po_some (pe_op (addK K) (v_ 5) pe_int)) po_none))))))) (pss_one (ps_ret (v_ 3)))))), ?_⟩
  refine ⟨_, _, rfl, .inl (SqL.of hp), fun t nt => ?_⟩
  refine ⟨Nat.zero_le _, fun r nr => ?_⟩
  have tr := new_ne nr
  have hr0 := free_new nr
  have hd0 := (hd.new (same_new (o := .lst xs) nt)).new (same_new (o := .lst []) nr)
  have ts : t ≠ st := hd.ne_new nt
  have rs : r ≠ st := hd.ne_new hr0
  have rc : r ≠ scr := hd.ne_scr hr0
  refine .inl ⟨_, .inl (SqL.of (by rw [upd_ne (ne_of_none hp hr0), upd_ne (ne_of_none hp nt)]; exact hp)), xs.length, rfl, by omega, by omega, ?_⟩
  refine for_range (lo := 0) (n := xs.length) (fun i σ' H' => ∃ (t : Addr) (rest ys : List V) (y z : Option V), σ' = [some (.ref st), some (.ref p), some (.ref t), some (.ref r), y, z] ∧ Bt st H H' ∧ DrAt H' st scr ∧ t ≠ st ∧ t ≠ r ∧ H' t = some (.lst rest) ∧ H' r = some (.lst ys) ∧ rest.length + i = xs.length ∧ ys.length = i ∧ (∀ y ∈ rest, y ∈ xs) ∧ ∀ y ∈ ys, y ∈ xs) ?_ ?_ ?_
  · exact ⟨t, xs, [], _, _, rfl, .same ((same_new nt).trans (same_new nr)), hd0, ts, tr.symm, by rw [upd_ne tr.symm, upd_same], upd_same, rfl, rfl, fun _ h => h, fun _ h => nomatch h⟩
  · rintro i σ' H' hi ⟨t, rest, ys, y, z, rfl, bt, hd, ts, tr, ht, hr, l1, l2, m1, m2⟩
    refine .inl ⟨_, .inl (SqL.of ht), st, scr, _, rfl, hd, by omega, many_small (by omega) (by omega), fun a l a0 a1 hd' => ?_⟩
    have ht1 : upd H' st (.lst l) t = some (.lst rest) := by rw [upd_ne ts]; exact ht
    have hr1 : upd H' st (.lst l) r = some (.lst ys) := by rw [upd_ne rs]; exact hr
    obtain ⟨x, hx, hm⟩ := at_list a0 a1
    refine ⟨.inl ⟨rfl, _, SqL.of hr1⟩, _, .inl (SqL.of ht1), x, hx, r, ys, x, rfl, rfl, hr1, line_lt (by omega), ?_⟩
    have hd2 := hd'.at (o := .lst (ys ++ [x])) rs rc
    have ht2 : upd (upd H' st (.lst l)) r (.lst (ys ++ [x])) t = some (.lst rest) := by rw [upd_ne tr]; exact ht1
    refine ⟨a, rfl, .inl ⟨rest, SqL.of ht2, fun u nu => ?_⟩⟩
    rw [cutV_take _ a0]
    have ht3 := same_new (o := .lst (rest.take a.toNat)) nu _ _ ht2
    refine ⟨a + 1, rfl, .inl ⟨rest, SqL.of ht3, fun v nv => ?_⟩⟩
    rw [cutV_drop _ (by omega)]
    have hu := same_new (o := .lst (rest.drop (a + 1).toNat)) nv _ _ (upd_same (H := upd (upd H' st (.lst l)) r (.lst (ys ++ [x]))) (a := u) (o := .lst (rest.take a.toNat)))
    refine .inl ⟨_, _, hu, upd_same, line_of (by rw [List.length_take, List.length_drop]; omega), fun k nk => ?_⟩
    have sm := ((same_new (o := .lst (rest.take a.toNat)) nu).trans (same_new (o := .lst (rest.drop (a + 1).toNat)) nv)).trans (same_new (o := .lst (rest.take a.toNat ++ rest.drop (a + 1).toNat)) nk)
    have hd3 := hd2.new sm
    have kn := free_new (free_new nk)
    refine ⟨k, _, ys ++ [x], _, _, rfl, ?_, hd3, hd2.ne_new kn, (ne_of_none upd_same kn).symm, upd_same, sm _ _ upd_same, ?_, by rw [List.length_append, l2]; rfl, ?_, ?_⟩
    · intro b o nb hb
      refine sm _ _ ?_
      have := bt b o nb hb
      rw [upd_ne (ne_of_none hb hr0), upd_ne nb]
      exact this
    · rw [List.length_append, List.length_take, List.length_drop]
      omega
    · intro y hy
      rcases List.mem_append.mp hy with h | h
      · exact m1 y (List.mem_of_mem_take h)
      · exact m1 y (List.mem_of_mem_drop h)
    · intro y hy
      rcases List.mem_append.mp hy with h | h
      · exact m2 y h
      · rw [List.mem_singleton.mp h]
        exact m1 x hm
  · rintro σ' H' ⟨t, rest, ys, y, z, rfl, bt, hd, ts, tr, ht, hr, l1, l2, m1, m2⟩
    exact q H' r ys bt hd hr0 hr (by omega) m2
end
section
variable {P : Program} {w : World} {K : PySem.W.Frag} {mg : Str → Option Value} {base : Heap}
variable {t_DIGITS t_LETTERS : Tok} {a_MARKS a_SIGNS a_BadName a_BadText a_ElseputError : Addr}
/-! ### the reserved words -/
abbrev letters : Str := "abcdefghijklmnopqrstuvwxyz"
theorem letters_cps : letters.cps.toList = El.LT := by decide +kernel
theorem digits_cps : ("0123456789" : Str).cps.toList = DG := by decide +kernel
abbrev resv : List V := [.str "always", .str "never", .str "and", .str "or", .str "not", .str "when", .str "add", .str "set", .str "change", .str "tell", .str "refuse", .str "take", .str "look", .str "free", .str "lock", .str "keep", .str "keys", .str "fields"]
abbrev sgV : List V := [.str "<", .str "<=", .str "==", .str "!=", .str ">=", .str ">", .str "(", .str ")", .str ",", .str ";", .str ":"]
def TokV (x : V) : Prop := ∃ z : Str, x = .str z ∧ Tok z.cps.toList ∧ z.length ≤ 40
theorem resv_tok : ∀ x ∈ resv, TokV x := by
  have h : resv.all (fun v => match v with | .str z => z.cps.toList.all isL && !z.cps.toList.isEmpty && decide (z.length ≤ 40) | _ => false) = true := by decide +kernel
  intro x hx
  have := List.all_eq_true.mp h x hx
  cases x with
  | str z =>
    simp only [Bool.and_eq_true, Bool.not_eq_true', List.all_eq_true, decide_eq_true_eq] at this
    exact ⟨z, rfl, .word (by intro e; rw [e] at this; simp at this) this.1.1, this.2⟩
  | _ => cases this
theorem sgV_tok : ∀ x ∈ sgV, TokV x := by
  have h : sgV.all (fun v => match v with | .str z => inSM z.cps.toList && decide (z.length ≤ 40) | _ => false) = true := by decide +kernel
  intro x hx
  have := List.all_eq_true.mp h x hx
  cases x with
  | str z =>
    simp only [Bool.and_eq_true, decide_eq_true_eq] at this
    exact ⟨z, rfl, .sm this.1, this.2⟩
  | _ => cases this
def sp__law_reserved (K : PySem.W.Frag) : Sp := fun vs H Q _ => vs = [] ∧ ∀ H' p, Same H H' → H p = none → H' p = some (.lst resv) → Q (.ref p) H'
theorem len__law_reserved {vs : List V} {H : Hp} {Q : VK} {E : XK} (h : sp__law_reserved K vs H Q E) : vs.length = 0 := by
  obtain ⟨rfl, _⟩ := h
  rfl
theorem ok__law_reserved {f : Addr} {fd : FuncData} (F : Fun K "_law_reserved" "_law_reserved" s__law_reserved f fd) (T : Gs K mg t_DIGITS t_LETTERS a_MARKS a_SIGNS a_BadName a_BadText a_ElseputError) : FnOk P w K mg base CX0 1 f fd [] (sp__law_reserved K) := by
  refine F.ok sc__law_reserved (fun vs H Q E h => len__law_reserved h) (fun cdv A outer s H vs Q E hr h => ?_)
  obtain ⟨rfl, q⟩ := h
  refine ⟨_, (pss_cons (ps_set (i := 0) sc__law_reserved.nd rfl (.inl rfl) (pe_lst (pa_cons pe_str (pa_cons pe_str (pa_cons pe_str (pa_cons pe_str (pa_cons pe_str (pa_cons pe_str (pa_cons pe_str (pa_cons pe_str (pa_cons pe_str (pa_cons pe_str (pa_cons pe_str (pa_cons pe_str pa_nil)))))))))))))) (pss_one (ps_ret (pe_op (addK K) (v_ 0) (pe_lst (pa_cons pe_str (pa_cons pe_str (pa_cons pe_str (pa_cons pe_str (pa_cons pe_str (pa_cons pe_str pa_nil))))))))))), ?_⟩
  refine ⟨(by show 12 ≤ sizeLine; decide), fun o no => ?_⟩
  refine ⟨(by show 6 ≤ sizeLine; decide), fun p np => ?_⟩
  have hpo := new_ne np
  refine .inl ⟨_, _, (by rw [upd_ne hpo.symm, upd_same]), upd_same, (by show 18 ≤ sizeLine; decide), fun r nr => ?_⟩
  exact q _ r (((same_new no).trans (same_new np)).trans (same_new nr)) (free_new (free_new nr)) upd_same

/-! ### _law_word -/
def sp__law_word (K : PySem.W.Frag) : Sp := fun vs H Q _ => ∃ (st scr : Addr) (n : Int), vs = [.ref st, .int n] ∧ DrAt H st scr ∧ 0 ≤ n ∧ n ≤ 100 ∧
  ∀ (z : Str) (l : List V), (z.length : Int) = n → (∀ c ∈ z.cps.toList, isL c = true) → DrAt (upd H st (.lst l)) st scr → Q (.str z) (upd H st (.lst l))
theorem len__law_word {vs : List V} {H : Hp} {Q : VK} {E : XK} (h : sp__law_word K vs H Q E) : vs.length = 2 := by
  obtain ⟨_, _, _, rfl, _⟩ := h
  rfl
theorem one_len (c : Nat) : (⟨#[c]⟩ : Str).length = 1 := rfl
theorem one_cps (c : Nat) : (⟨#[c]⟩ : Str).cps.toList = [c] := rfl
theorem ok__law_word {f : Addr} {fd : FuncData} {f__law_draw : Addr} {fd__law_draw : FuncData} (F : Fun K "_law_word" "_law_word" s__law_word f fd) (T : Gs K mg t_DIGITS t_LETTERS a_MARKS a_SIGNS a_BadName a_BadText a_ElseputError) (c__law_draw : Cal P w K mg base CX0 1 "_law_draw" f__law_draw fd__law_draw ["_law_state_here", "_law_many"] (sp__law_draw K)) : FnOk P w K mg base CX0 2 f fd ["_law_state_here", "_law_size"] (sp__law_word K) := by
  refine F.ok sc__law_word (fun vs H Q E h => len__law_word h) (fun cdv A outer s H vs Q E hr h => ?_)
  obtain ⟨st, scr, n, rfl, hd, h0, h1, q⟩ := h
  obtain ⟨l0, e0⟩ := hd.lst
  refine ⟨_, (pss_cons (ps_set (i := 2) sc__law_word.nd rfl (.inl rfl) pe_str) (pss_cons (ps_set (i := 3) sc__law_word.nd rfl (.inl rfl) pe_str) (pss_cons (ps_set (i := 4) sc__law_word.nd rfl (.inl rfl) pe_int) (pss_cons (ps_for PassesOwn.never rfl (pi_range1 rfl T.z_range (pa_cons (v_ 1) pa_nil)) (pg_name (i := 5) sc__law_word.nd rfl (.inl rfl)) (Evl.pss_cut (ps_if (pt_c (eqK K hr.units) (pe_op op_modM (v_ 5) pe_int) pe_int) (pss_one (ps_set (i := 4) sc__law_word.nd rfl (.inl rfl) (pe_call c__law_draw.G (hr.mono (by first | decide | omega)) rfl c__law_draw.m c__law_draw.kp c__law_draw.b .nil pass0 (pa_cons (v_ 0) (pa_cons pe_int pa_nil))))) pss_nil) (pss_cons (ps_set (i := 3) sc__law_word.nd rfl (.inl rfl) (pe_op (addK K) (v_ 3) (e_x K (v_ 2) (pe_op op_modM (pe_callTy call_intM (by rfl) T.z_int (by decide +kernel) (pa_cons (v_ 4) pa_nil)) pe_int)))) (pss_one (ps_set (i := 4) sc__law_word.nd rfl (.inl rfl) (pe_op op_divM (pe_callTy call_intM (by rfl) T.z_int (by decide +kernel) (pa_cons (v_ 4) pa_nil)) pe_int)))))) (pss_one (ps_ret (v_ 3))))))), ?_⟩
  refine ⟨n, rfl, by omega, by omega, ?_⟩
  refine for_range (lo := 0) (n := n.toNat) (fun i σ' H' => ∃ (z : Str) (k : Int) (y : Option V) (l : List V), σ' = [some (.ref st), some (.int n), some (.str letters), some (.str z), some (.int k), y] ∧ H' = upd H st (.lst l) ∧ DrAt H' st scr ∧ z.length = i ∧ ∀ c ∈ z.cps.toList, isL c = true) ?_ ?_ ?_
  · exact ⟨_, _, _, l0, rfl, (upd_id e0).symm, hd, rfl, fun _ h => nomatch h⟩
  · rintro i σ' H' hi ⟨z, k, y, l, rfl, rfl, hd, hz, ha⟩
    refine ⟨fun σ' H' => ∃ (k : Int) (l : List V), σ' = [some (.ref st), some (.int n), some (.str letters), some (.str z), some (.int k), some (.int (0 + i))] ∧ H' = upd H st (.lst l) ∧ DrAt H' st scr, ?_, ?_⟩
    · refine ⟨by decide, ?_⟩
      refine ite2 (fun e => ?_) (fun e => ?_)
      · refine ⟨st, scr, _, rfl, hd, by decide, many_small (by decide) (by decide), fun r l' r0 r1 hd' => ?_⟩
        exact ⟨r, l', rfl, upd_upd, hd'⟩
      · exact ⟨k, l, rfl, rfl, hd⟩
    · rintro σ' H' ⟨k, l, rfl, rfl, hd⟩
      refine ⟨by decide, ?_⟩
      have r0 := Int.emod_nonneg k (by decide : (26 : Int) ≠ 0)
      have r1 := Int.emod_lt_of_pos k (by decide : (0 : Int) < 26)
      obtain ⟨c, hc, hm⟩ := at_str (z := letters) r0 (by rw [show letters.length = 26 by decide +kernel]; exact r1)
      refine ⟨(by rw [show letters.length = 26 by decide +kernel]; decide), c, hc, ?_⟩
      refine ⟨line_of (by rw [one_len]; omega), ?_⟩
      refine ⟨.inl ⟨by decide, by decide⟩, ?_⟩
      refine ⟨_, _, _, l, rfl, rfl, hd, by rw [len_add, one_len, hz], fun d hd => ?_⟩
      rw [cps_add] at hd
      rcases List.mem_append.mp hd with h | h
      · exact ha d h
      · rw [List.mem_singleton.mp h]
        rw [letters_cps] at hm
        exact decide_eq_true hm
  · rintro σ' H' ⟨z, k, y, l, rfl, rfl, hd, hz, ha⟩
    exact q z l (by omega) ha hd

/-! ### _law_piece -/
def sp__law_piece (K : PySem.W.Frag) : Sp := fun vs H Q _ => ∃ (st scr : Addr), vs = [.ref st] ∧ DrAt H st scr ∧ ∀ (H' : Hp) (x : V), Bt st H H' → DrAt H' st scr → TokV x → Q x H'
theorem len__law_piece {vs : List V} {H : Hp} {Q : VK} {E : XK} (h : sp__law_piece K vs H Q E) : vs.length = 1 := by
  obtain ⟨_, _, rfl, _⟩ := h
  rfl
theorem ok__law_piece {f : Addr} {fd : FuncData} {f__law_draw : Addr} {fd__law_draw : FuncData} {f__law_word : Addr} {fd__law_word : FuncData} {f__law_pick : Addr} {fd__law_pick : FuncData} {f__law_reserved : Addr} {fd__law_reserved : FuncData} (F : Fun K "_law_piece" "_law_piece" s__law_piece f fd) (T : Gs K mg t_DIGITS t_LETTERS a_MARKS a_SIGNS a_BadName a_BadText a_ElseputError) (c__law_draw : Cal P w K mg base CX0 1 "_law_draw" f__law_draw fd__law_draw ["_law_state_here", "_law_many"] (sp__law_draw K)) (c__law_word : Cal P w K mg base CX0 2 "_law_word" f__law_word fd__law_word ["_law_state_here", "_law_size"] (sp__law_word K)) (c__law_pick : Cal P w K mg base CX0 2 "_law_pick" f__law_pick fd__law_pick ["_law_state_here", "_law_row"] (sp__law_pick K)) (c__law_reserved : Cal P w K mg base CX0 1 "_law_reserved" f__law_reserved fd__law_reserved [] (sp__law_reserved K)) : FnOk P w K mg base CX0 3 f fd ["_law_state_here"] (sp__law_piece K) := by
  refine F.ok sc__law_piece (fun vs H Q E h => len__law_piece h) (fun cdv A outer s H vs Q E hr h => ?_)
  obtain ⟨st, scr, rfl, hd, q⟩ := h
  refine ⟨_, (pss_cons (ps_set (i := 1) sc__law_piece.nd rfl (.inl rfl) (pe_call c__law_draw.G (hr.mono (by first | decide | omega)) rfl c__law_draw.m c__law_draw.kp c__law_draw.b .nil pass0 (pa_cons (v_ 0) (pa_cons pe_int pa_nil)))) (pss_cons (ps_if (pt_c (eqK K hr.units) (v_ 1) pe_int) (pss_one (ps_ret (pe_call c__law_word.G (hr.mono (by first | decide | omega)) rfl c__law_word.m c__law_word.kp c__law_word.b .nil pass0 (pa_cons (v_ 0) (pa_cons (pe_op (addK K) pe_int (pe_call c__law_draw.G (hr.mono (by first | decide | omega)) rfl c__law_draw.m c__law_draw.kp c__law_draw.b .nil pass0 (pa_cons (v_ 0) (pa_cons pe_int pa_nil)))) pa_nil))))) pss_nil) (pss_cons (ps_if (pt_c (eqK K hr.units) (v_ 1) pe_int) (pss_one (ps_ret (pe_call c__law_pick.G (hr.mono (by first | decide | omega)) rfl c__law_pick.m c__law_pick.kp c__law_pick.b .nil pass0 (pa_cons (v_ 0) (pa_cons (pe_call0 c__law_reserved.G (hr.mono (by first | decide | omega)) rfl c__law_reserved.m c__law_reserved.kp c__law_reserved.b .nil pass0) pa_nil))))) pss_nil) (pss_cons (ps_if (pt_c (eqK K hr.units) (v_ 1) pe_int) (pss_one (ps_ret (pe_call c__law_pick.G (hr.mono (by first | decide | omega)) rfl c__law_pick.m c__law_pick.kp c__law_pick.b .nil pass0 (pa_cons (v_ 0) (pa_cons (pe_lst (pa_cons pe_str (pa_cons pe_str (pa_cons pe_str (pa_cons pe_str (pa_cons pe_str (pa_cons pe_str (pa_cons pe_str (pa_cons pe_str (pa_cons pe_str (pa_cons pe_str (pa_cons pe_str pa_nil)))))))))))) pa_nil))))) pss_nil) (pss_cons (ps_set (i := 2) sc__law_piece.nd rfl (.inl rfl) (pe_op (addK K) (pe_op op_mulSM pe_str (pe_call c__law_draw.G (hr.mono (by first | decide | omega)) rfl c__law_draw.m c__law_draw.kp c__law_draw.b .nil pass0 (pa_cons (v_ 0) (pa_cons pe_int pa_nil)))) (pe_callTy call_str_int (by rfl) T.z_str (by decide +kernel) (pa_cons (pe_call c__law_draw.G (hr.mono (by first | decide | omega)) rfl c__law_draw.m c__law_draw.kp c__law_draw.b .nil pass0 (pa_cons (v_ 0) (pa_cons (pe_op op_powM pe_int pe_int) pa_nil))) pa_nil)))) (pss_cons (ps_if (pt_c (eqK K hr.units) (v_ 1) pe_int) (pss_one (ps_ret (v_ 2))) pss_nil) (pss_one (ps_ret (pe_op (addK K) pe_str (v_ 2)))))))))), ?_⟩
  refine ⟨st, scr, _, rfl, hd, by decide, many_small (by decide) (by decide), fun kd l _ _ hd => ?_⟩
  have b1 : Bt st H (upd H st (.lst l)) := Bt.st
  generalize upd H st (.lst l) = H1 at hd b1 ⊢
  refine ite2 (fun e => ?_) (fun e => ?_)
  · refine ⟨st, scr, _, rfl, hd, by decide, many_small (by decide) (by decide), fun r l r0 r1 hd2 => ?_⟩
    refine ⟨st, scr, _, rfl, hd2, by omega, by omega, fun z l2 hz ha hd3 => ?_⟩
    refine q _ _ (b1.trans (Bt.st.trans Bt.st)) hd3 ⟨z, rfl, .word (fun e => ?_) ha, by omega⟩
    have := len_cps z
    rw [e] at this
    have : z.length = 0 := this.symm
    omega
  refine ite2 (fun e => ?_) (fun e => ?_)
  · refine ⟨rfl, fun H2 p sm np hp => ?_⟩
    have hd2 := hd.new sm
    refine ⟨st, scr, _, rfl, hd2, .inr ⟨p, resv, rfl, hp, hd.ne_new np, by decide, by decide, fun x l hx hd3 => ?_⟩⟩
    exact q _ _ ((b1.trans (Bt.same sm)).trans Bt.st) hd3 (resv_tok x hx)
  refine ite2 (fun e => ?_) (fun e => ?_)
  · refine ⟨(by show 11 ≤ sizeLine; decide), fun p np => ?_⟩
    have hd2 := hd.new (same_new (o := .lst sgV) np)
    refine ⟨st, scr, _, rfl, hd2, .inr ⟨p, sgV, rfl, upd_same, hd.ne_new np, by decide, by decide, fun x l hx hd3 => ?_⟩⟩
    exact q _ _ ((b1.trans (Bt.same (same_new np))).trans Bt.st) hd3 (sgV_tok x hx)
  refine ⟨st, scr, _, rfl, hd, by decide, many_small (by decide) (by decide), fun r l r0 r1 hd2 => ?_⟩
  have b2 := b1.trans (Bt.st (st := st) (o := .lst l))
  generalize upd H1 st (.lst l) = H2 at hd2 b2 ⊢
  refine ⟨by omega, by omega, by decide, ?_⟩
  refine ⟨(by unfold CPow; decide), ?_⟩
  refine ⟨st, scr, _, rfl, hd2, by decide +kernel, by decide +kernel, fun r2 l2 s0 s1 hd3 => ?_⟩
  have b3 := b2.trans (Bt.st (st := st) (o := .lst l2))
  generalize upd H2 st (.lst l2) = H3 at hd3 b3 ⊢
  have s2 : r2 < 10 ^ 31 := s1
  have tl : (Str.ofString (toString r2)).length ≤ 31 := toString_length_le s0 (by decide) s2
  have nat : r2.natAbs < 2 ^ 200 := by
    have : ((10 : Int) ^ 31).natAbs < 2 ^ 200 := by decide +kernel
    omega
  refine ⟨r2, rfl, Nat.lt_trans (PySem.Flt.log2_lt_of (by decide) nat) (by decide), ?_⟩
  have e1 : (repS "0" r).cps.toList = List.replicate r.toNat 48 := repS1
  have l1 : (repS "0" r).length = r.toNat := by rw [← len_cps, e1, List.length_replicate]
  refine ⟨line_of (by rw [l1]; omega), ?_⟩
  have all : ∀ c ∈ (repS "0" r ++ (toString r2 : String)).cps.toList, isD c = true := fun c hc => by
    rw [cps_add, e1] at hc
    rcases List.mem_append.mp hc with h | h
    · rw [List.eq_of_mem_replicate h]
      decide
    · exact isD_iff.mpr (int_digits s0 c h)
  have ne : (repS "0" r ++ (toString r2 : String)).cps.toList ≠ [] := by
    rw [cps_add]
    intro e
    exact int_text_ne r2 (List.append_eq_nil_iff.mp e).2
  refine ite2 (fun e => ?_) (fun e => ?_)
  · exact q _ _ b3 hd3 ⟨_, rfl, .int ne all, by rw [len_add, l1]; omega⟩
  · have m1 : ("-" : Str).length = 1 := rfl
    refine ⟨line_of (by rw [m1, len_add, l1]; omega), ?_⟩
    refine q _ _ b3 hd3 ⟨_, rfl, ?_, by rw [len_add, len_add, l1, m1]; omega⟩
    rw [cps_add]
    exact .neg ne all

/-! ### _law_touch -/
theorem str_eq {a b : Str} : a = b ↔ a.cps.toList = b.cps.toList := by
  constructor
  · rintro rfl; rfl
  · intro h
    cases a
    cases b
    congr
    exact Array.toList_inj.mp h
theorem at_head {z : Str} (h : 0 < z.length) : atI z.cps.toList 0 = some (z.cps.toList.headD 0) := by
  have h2 := len_cps z
  cases e : z.cps.toList with
  | nil => rw [e] at h2; rw [← h2] at h; exact absurd h (by decide)
  | cons a r => exact atI_nat (j := 0) rfl
theorem at_last {z : Str} (h : 0 < z.length) : atI z.cps.toList (-1) = some (z.cps.toList.getLastD 0) := by
  have h2 := len_cps z
  generalize z.cps.toList = xs at h2 ⊢
  have hp : 0 < xs.length := by omega
  unfold atI ixN
  rw [if_neg (by decide), if_pos (by omega)]
  show xs[((-1 : Int) + (xs.length : Int)).toNat]? = _
  rw [show ((-1 : Int) + (xs.length : Int)).toNat = xs.length - 1 by omega, ← List.getLast?_eq_getElem?]
  cases xs with
  | nil => exact absurd hp (by decide)
  | cons a r => rw [List.getLast?_cons, List.getLastD_cons, List.getLastD_eq_getLast?]
theorem inV_str {z : Str} : ∀ {xs : List Str}, inV (.str z) (xs.map V.str) = decide (z.cps.toList ∈ xs.map (·.cps.toList))
  | [] => rfl
  | a :: r => by
    have ih := inV_str (z := z) (xs := r)
    unfold inV at ih ⊢
    rw [List.map_cons, List.any_cons, ih, List.map_cons]
    have : eqV (.str a) (.str z) = decide (z.cps.toList = a.cps.toList) := by
      show (a == z) = _
      rw [Bool.eq_iff_iff, beq_iff_eq, decide_eq_true_iff, str_eq, eq_comm]
    rw [this, Bool.eq_iff_iff, Bool.or_eq_true, decide_eq_true_iff, decide_eq_true_iff, decide_eq_true_iff, List.mem_cons]
def sp__law_touch (K : PySem.W.Frag) : Sp := fun vs H Q _ => ∃ a b : Str, vs = [.str a, .str b] ∧ 0 < a.length ∧ a.length ≤ 100 ∧ 0 < b.length ∧ b.length ≤ 100 ∧ ∀ H', Same H H' → Q (.bl (touchB a.cps.toList b.cps.toList)) H'
theorem len__law_touch {vs : List V} {H : Hp} {Q : VK} {E : XK} (h : sp__law_touch K vs H Q E) : vs.length = 2 := by
  obtain ⟨_, _, rfl, _⟩ := h
  rfl
theorem one_eq {c d : Nat} {s : Str} (h : s.cps.toList = [d]) : ((⟨#[c]⟩ : Str) = s) ↔ c = d := by
  rw [str_eq, h, one_cps]
  simp
theorem ok__law_touch {f : Addr} {fd : FuncData} (F : Fun K "_law_touch" "_law_touch" s__law_touch f fd) (T : Gs K mg t_DIGITS t_LETTERS a_MARKS a_SIGNS a_BadName a_BadText a_ElseputError) : FnOk P w K mg base CX0 1 f fd ["_law_one", "_law_two"] (sp__law_touch K) := by
  refine F.ok sc__law_touch (fun vs H Q E h => len__law_touch h) (fun cdv A outer s H vs Q E hr h => ?_)
  obtain ⟨a, b, rfl, a0, a1, b0, b1, q⟩ := h
  refine ⟨_, (pss_cons (ps_set (i := 2) sc__law_touch.nd rfl (.inl rfl) pe_str) (pss_cons (ps_set (i := 3) sc__law_touch.nd rfl (.inl rfl) pe_str) (pss_cons (ps_if (PW.pt (pw_and (pt_c (inK K) (e_x K (v_ 0) (pe_un un_negM pe_int)) (v_ 2)) (pw_and1 (pt_c (inK K) (e_x K (v_ 1) pe_int) (v_ 2))))) (pss_one (ps_ret pe_bl)) pss_nil) (pss_cons (ps_if (PW.pt (pw_and (pt_c (inK K) (e_x K (v_ 1) pe_int) (v_ 3)) (pw_and1 (PW.pt (pw_or (pt_c (inK K) (e_x K (v_ 0) (pe_un un_negM pe_int)) (v_ 3)) (pw_or1 (pt_c (eqK K hr.units) (v_ 0) pe_str))))))) (pss_one (ps_ret pe_bl)) pss_nil) (pss_one (ps_ret (pe_andM (pe_c (eqK K hr.units) (e_x K (v_ 1) pe_int) pe_str) (pe_one (pe_c (inK K) (v_ 0) (pe_lst (pa_cons pe_str (pa_cons pe_str (pa_cons pe_str (pa_cons pe_str pa_nil)))))))))))))), ?_⟩
  have ea := at_last a0
  have eb := at_head b0
  have la : a.length ≤ sizeLine := line_of (by omega)
  have lb : b.length ≤ sizeLine := line_of (by omega)
  have mL : ∀ c, decide (c ∈ letters.cps.toList) = isL c := fun c => by rw [letters_cps]; rfl
  have mD : ∀ c, decide (c ∈ ("0123456789" : Str).cps.toList) = isD c := fun c => by rw [digits_cps]; rfl
  have tB : touchB a.cps.toList b.cps.toList = ((isL (a.cps.toList.getLastD 0) && isL (b.cps.toList.headD 0)) || (isD (b.cps.toList.headD 0) && (isD (a.cps.toList.getLastD 0) || decide (a.cps.toList = [45]))) || (decide (b.cps.toList.headD 0 = 61) && (decide (a.cps.toList = [60]) || decide (a.cps.toList = [62]) || decide (a.cps.toList = [33]) || decide (a.cps.toList = [61])))) := rfl
  rw [tB] at q
  generalize a.cps.toList.getLastD 0 = x at ea q
  generalize b.cps.toList.headD 0 = y at eb q
  have m45 : decide (a = "-") = decide (a.cps.toList = [45]) := by
    rw [Bool.eq_iff_iff, decide_eq_true_iff, decide_eq_true_iff, str_eq]
    rfl
  have m61 : decide ((⟨#[y]⟩ : Str) = "=") = decide (y = 61) := by
    rw [Bool.eq_iff_iff, decide_eq_true_iff, decide_eq_true_iff, one_eq (d := 61) rfl]
  have m4 : inV (.str a) [.str "<", .str ">", .str "!", .str "="] = (decide (a.cps.toList = [60]) || decide (a.cps.toList = [62]) || decide (a.cps.toList = [33]) || decide (a.cps.toList = [61])) := by
    refine (inV_str (z := a) (xs := ["<", ">", "!", "="])).trans ?_
    rw [show (["<", ">", "!", "="] : List Str).map (·.cps.toList) = [[60], [62], [33], [61]] by decide +kernel, Bool.eq_iff_iff]
    simp only [decide_eq_true_iff, Bool.or_eq_true, List.mem_cons, List.not_mem_nil, or_false, or_assoc]
  generalize (decide (a.cps.toList = [60]) || decide (a.cps.toList = [62]) || decide (a.cps.toList = [33]) || decide (a.cps.toList = [61])) = k4 at q m4
  generalize decide (a.cps.toList = [45]) = k45 at q m45
  generalize decide (y = 61) = k61 at q m61
  have fin : ∀ {r : Bool} {H' : Hp}, Same H H' → (isL x && isL y || isD y && (isD x || k45) || k61 && k4) = r → Q (.bl r) H' := fun s e => e ▸ q _ s
  have third : (isL x && isL y) = false → (isD y && (isD x || k45)) = false → (k61 = true → ∀ p, H p = none → Q (.bl k4) (upd H p (.lst [.str "<", .str ">", .str "!", .str "="]))) ∧ (k61 = false → Q (.bl false) H) := fun h1 h2 =>
    ⟨fun h3 p np => fin (same_new np) (by rw [h1, h2, h3]; simp), fun h3 => fin (Same.refl H) (by rw [h1, h2, h3]; simp)⟩
  have dig : (isL x && isL y) = false → (isD y = true → isD x = true → Q (.bl true) H) ∧ (isD y = true → isD x = false → k45 = true → Q (.bl true) H) := fun h1 =>
    ⟨fun h2 h3 => fin (Same.refl H) (by rw [h1, h2, h3]; simp), fun h2 h3 h4 => fin (Same.refl H) (by rw [h1, h2, h3, h4]; simp)⟩
  have bf : ∀ {c : Bool}, ¬ c = true → c = false := fun h => Bool.eq_false_iff.mpr h
  refine ⟨la, x, ea, x, rfl, ?_⟩
  have rest : (isL x && isL y) = false → ∀ G : Prop, (((isD y = true → isD x = true → Q (.bl true) H) ∧ (isD y = true → isD x = false → k45 = true → Q (.bl true) H)) → ((isD y && (isD x || k45)) = false → (k61 = true → ∀ p, H p = none → Q (.bl k4) (upd H p (.lst [.str "<", .str ">", .str "!", .str "="]))) ∧ (k61 = false → Q (.bl false) H)) → G) → G := fun h1 G k => k (dig h1) (third h1)
  refine ite2 (fun h1 => ?_) (fun h1 => ?_)
  · have h1 : isL x = true := (mL x).symm.trans h1
    refine ⟨lb, y, eb, y, rfl, ?_⟩
    refine ite2 (fun h2 => ?_) (fun h2 => ?_)
    · have h2 : isL y = true := (mL y).symm.trans h2
      exact fin (Same.refl H) (by rw [h1, h2]; simp)
    have h2 : isL y = false := (mL y).symm.trans (bf h2)
    refine rest (by rw [h2, Bool.and_false]) _ fun ⟨d1, d2⟩ th => ?_
    refine ⟨lb, y, eb, y, rfl, ?_⟩
    refine ite2 (fun h3 => ?_) (fun h3 => ?_)
    · have h3 : isD y = true := (mD y).symm.trans h3
      refine ⟨la, x, ea, x, rfl, ?_⟩
      refine ite2 (fun h4 => ?_) (fun h4 => ?_)
      · exact d1 h3 ((mD x).symm.trans h4)
      have h4 : isD x = false := (mD x).symm.trans (bf h4)
      refine ite2 (fun h5 => ?_) (fun h5 => ?_)
      · exact d2 h3 h4 (m45.symm.trans h5)
      have h5 : k45 = false := m45.symm.trans (bf h5)
      obtain ⟨t1, t2⟩ := th (by rw [h3, h4, h5]; rfl)
      refine ⟨lb, y, eb, ?_⟩
      refine ite2 (fun h6 => ?_) (fun h6 => ?_)
      · refine ⟨(by show 4 ≤ sizeLine; decide), fun p np => ⟨_, .inl (SqL.of upd_same), rfl, rfl, ?_⟩⟩
        have := t1 (m61.symm.trans h6) p np
        rw [← m4] at this
        exact this
      · exact t2 (m61.symm.trans (bf h6))
    · have h3 : isD y = false := (mD y).symm.trans (bf h3)
      obtain ⟨t1, t2⟩ := th (by rw [h3]; rfl)
      refine ⟨lb, y, eb, ?_⟩
      refine ite2 (fun h6 => ?_) (fun h6 => ?_)
      · refine ⟨(by show 4 ≤ sizeLine; decide), fun p np => ⟨_, .inl (SqL.of upd_same), rfl, rfl, ?_⟩⟩
        have := t1 (m61.symm.trans h6) p np
        rw [← m4] at this
        exact this
      · exact t2 (m61.symm.trans (bf h6))
  · have h1 : isL x = false := (mL x).symm.trans (bf h1)
    refine rest (by rw [h1, Bool.false_and]) _ fun ⟨d1, d2⟩ th => ?_
    refine ⟨lb, y, eb, y, rfl, ?_⟩
    refine ite2 (fun h3 => ?_) (fun h3 => ?_)
    · have h3 : isD y = true := (mD y).symm.trans h3
      refine ⟨la, x, ea, x, rfl, ?_⟩
      refine ite2 (fun h4 => ?_) (fun h4 => ?_)
      · exact d1 h3 ((mD x).symm.trans h4)
      have h4 : isD x = false := (mD x).symm.trans (bf h4)
      refine ite2 (fun h5 => ?_) (fun h5 => ?_)
      · exact d2 h3 h4 (m45.symm.trans h5)
      have h5 : k45 = false := m45.symm.trans (bf h5)
      obtain ⟨t1, t2⟩ := th (by rw [h3, h4, h5]; rfl)
      refine ⟨lb, y, eb, ?_⟩
      refine ite2 (fun h6 => ?_) (fun h6 => ?_)
      · refine ⟨(by show 4 ≤ sizeLine; decide), fun p np => ⟨_, .inl (SqL.of upd_same), rfl, rfl, ?_⟩⟩
        have := t1 (m61.symm.trans h6) p np
        rw [← m4] at this
        exact this
      · exact t2 (m61.symm.trans (bf h6))
    · have h3 : isD y = false := (mD y).symm.trans (bf h3)
      obtain ⟨t1, t2⟩ := th (by rw [h3]; rfl)
      refine ⟨lb, y, eb, ?_⟩
      refine ite2 (fun h6 => ?_) (fun h6 => ?_)
      · refine ⟨(by show 4 ≤ sizeLine; decide), fun p np => ⟨_, .inl (SqL.of upd_same), rfl, rfl, ?_⟩⟩
        have := t1 (m61.symm.trans h6) p np
        rw [← m4] at this
        exact this
      · exact t2 (m61.symm.trans (bf h6))
end
section
variable {P : Program} {w : World} {K : PySem.W.Frag} {mg : Str → Option Value} {base : Heap}
variable {t_DIGITS t_LETTERS : Tok} {a_MARKS a_SIGNS a_BadName a_BadText a_ElseputError : Addr}
/-! ### _law_laid -/
def colV (n : Nat) : V := .int (n : Int)
def sp__law_laid (K : PySem.W.Frag) : Sp := fun vs H Q _ => ∃ (st scr p : Addr) (zs : List Str), vs = [.ref st, .ref p] ∧ DrAt H st scr ∧ H p = some (.lst (zs.map V.str)) ∧ p ≠ st ∧ zs.length ≤ 100 ∧ (∀ z ∈ zs, 0 < z.length ∧ z.length ≤ 40) ∧
  ∀ (H' : Hp) (t c : Addr) (line : Str) (lead tail : Nat) (gs : List (Nat × List Nat)), Bt st H H' → DrAt H' st scr → H t = none → H c = none → H' t = some (.tup [.str line, .ref c]) → H' c = some (.lst ((cols (1 + lead) gs).map colV)) →
    gs.map (·.2) = zs.map (·.cps.toList) → Apart gs → line.cps.toList = List.replicate lead 32 ++ lay gs (List.replicate tail 32) → line.length ≤ 10000 → Q (.ref t) H'
theorem len__law_laid {vs : List V} {H : Hp} {Q : VK} {E : XK} (h : sp__law_laid K vs H Q E) : vs.length = 2 := by
  obtain ⟨_, _, _, _, rfl, _⟩ := h
  rfl
theorem take_snoc {α : Type} {xs : List α} {i : Nat} {x : α} (h : xs[i]? = some x) : xs.take (i + 1) = xs.take i ++ [x] := by
  rw [List.take_add_one, h]
  rfl
theorem ok__law_laid {f : Addr} {fd : FuncData} {f__law_draw : Addr} {fd__law_draw : FuncData} {f__law_touch : Addr} {fd__law_touch : FuncData} (F : Fun K "_law_laid" "_law_laid" s__law_laid f fd) (T : Gs K mg t_DIGITS t_LETTERS a_MARKS a_SIGNS a_BadName a_BadText a_ElseputError) (c__law_draw : Cal P w K mg base CX0 1 "_law_draw" f__law_draw fd__law_draw ["_law_state_here", "_law_many"] (sp__law_draw K)) (c__law_touch : Cal P w K mg base CX0 1 "_law_touch" f__law_touch fd__law_touch ["_law_one", "_law_two"] (sp__law_touch K)) : FnOk P w K mg base CX0 2 f fd ["_law_state_here", "_law_pieces"] (sp__law_laid K) := by
  refine F.ok sc__law_laid (fun vs H Q E h => len__law_laid h) (fun cdv A outer s H vs Q E hr h => ?_)
  obtain ⟨st, scr, p, zs, rfl, hd, hp, hne, hl, hz, q⟩ := h
  refine ⟨_, (pss_cons (ps_set (i := 2) sc__law_laid.nd rfl (.inl rfl) (pe_op op_mulSM pe_str (pe_call c__law_draw.G (hr.mono (by first | decide | omega)) rfl c__law_draw.m c__law_draw.kp c__law_draw.b .nil pass0 (pa_cons (v_ 0) (pa_cons pe_int pa_nil))))) (pss_cons (ps_set (i := 3) sc__law_laid.nd rfl (.inl rfl) (pe_lst pa_nil)) (pss_cons (ps_set (i := 4) sc__law_laid.nd rfl (.inl rfl) pe_int) (pss_cons (ps_for PassesOwn.never rfl (pi_range1 rfl T.z_range (pa_cons (pe_callB (lenK K) (by rfl) T.z_len PySem.boot_len (pa_cons (v_ 1) pa_nil)) pa_nil)) (pg_name (i := 5) sc__law_laid.nd rfl (.inl rfl)) (Evl.pss_cut (ps_if (pt_c (eqK K hr.units) (pe_op op_modM (v_ 5) pe_int) pe_int) (pss_one (ps_set (i := 4) sc__law_laid.nd rfl (.inl rfl) (pe_call c__law_draw.G (hr.mono (by first | decide | omega)) rfl c__law_draw.m c__law_draw.kp c__law_draw.b .nil pass0 (pa_cons (v_ 0) (pa_cons pe_int pa_nil))))) pss_nil) (pss_cons (ps_set (i := 6) sc__law_laid.nd rfl (.inl rfl) (pe_op op_modM (pe_callTy call_intM (by rfl) T.z_int (by decide +kernel) (pa_cons (v_ 4) pa_nil)) pe_int)) (pss_cons (ps_set (i := 4) sc__law_laid.nd rfl (.inl rfl) (pe_op op_divM (pe_callTy call_intM (by rfl) T.z_int (by decide +kernel) (pa_cons (v_ 4) pa_nil)) pe_int)) (Evl.pss_cut (ps_if (PW.pt (pw_and (pt_c (eqK K hr.units) (v_ 6) pe_int) (pw_and (pt_c op_gtM (v_ 5) pe_int) (pw_and1 (pt_t K (pe_call c__law_touch.G (hr.mono (by first | decide | omega)) rfl c__law_touch.m c__law_touch.kp c__law_touch.b .nil pass0 (pa_cons (e_x K (v_ 1) (pe_op op_subM (v_ 5) pe_int)) (pa_cons (e_x K (v_ 1) (v_ 5)) pa_nil)))))))) (pss_one (ps_set (i := 6) sc__law_laid.nd rfl (.inl rfl) pe_int)) pss_nil) (pss_cons (ps_set (i := 2) sc__law_laid.nd rfl (.inl rfl) (pe_op (addK K) (v_ 2) (pe_op op_mulSM pe_str (v_ 6)))) (pss_cons (ps_expr (pe_bm PySem.F.plainAttrs_list PySem.F.slot_list_append PySem.F.type_list_append mt_append (v_ 3) (pa_cons (pe_op (addK K) (pe_callB (lenK K) (by rfl) T.z_len PySem.boot_len (pa_cons (v_ 2) pa_nil)) pe_int) pa_nil))) (pss_one (ps_set (i := 2) sc__law_laid.nd rfl (.inl rfl) (pe_op (addK K) (v_ 2) (e_x K (v_ 1) (v_ 5)))))))))))) (pss_one (ps_ret (pe_tup (pa_cons (pe_op (addK K) (v_ 2) (pe_op op_mulSM pe_str (pe_call c__law_draw.G (hr.mono (by first | decide | omega)) rfl c__law_draw.m c__law_draw.kp c__law_draw.b .nil pass0 (pa_cons (v_ 0) (pa_cons pe_int pa_nil))))) (pa_cons (v_ 3) pa_nil))))))))), ?_⟩
  refine ⟨st, scr, _, rfl, hd, by decide, many_small (by decide) (by decide), fun ld l r0 r1 hd => ?_⟩
  have b1 : Bt st H (upd H st (.lst l)) := Bt.st
  generalize upd H st (.lst l) = H1 at hd b1 ⊢
  refine ⟨by omega, by omega, by decide, ?_⟩
  refine ⟨Nat.zero_le _, fun c nc => ?_⟩
  have cs : c ≠ st := hd.ne_new nc
  have cc : c ≠ scr := hd.ne_scr nc
  have c0 : H c = none := b1.free cs nc
  have cp : c ≠ p := fun e => by rw [e, hp] at c0; cases c0
  have hp1 := b1 _ _ hne hp
  refine .inl ⟨_, .inl (SqL.of (same_new nc _ _ hp1)), ?_⟩
  rw [List.length_map]
  refine ⟨_, rfl, by omega, by omega, ?_⟩
  have e32 : ∀ k : Int, (repS " " k).cps.toList = List.replicate k.toNat 32 := fun k => repS1
  have l32 : ∀ k : Int, (repS " " k).length = k.toNat := fun k => by rw [← len_cps, e32, List.length_replicate]
  refine for_range (lo := 0) (n := zs.length) (fun i σ' H' => ∃ (line : Str) (code : Int) (y z : Option V) (gs : List (Nat × List Nat)), σ' = [some (.ref st), some (.ref p), some (.str line), some (.ref c), some (.int code), y, z] ∧ Bt st H H' ∧ DrAt H' st scr ∧
    H' c = some (.lst ((cols (1 + ld.toNat) gs).map colV)) ∧ gs.map (·.2) = (zs.take i).map (·.cps.toList) ∧ Apart gs ∧ line.cps.toList = List.replicate ld.toNat 32 ++ lay gs [] ∧ line.length ≤ 2 + 42 * i) ?_ ?_ ?_
  · refine ⟨_, _, _, _, [], rfl, b1.trans (.same (same_new nc)), hd.new (same_new nc), upd_same, rfl, trivial, ?_, ?_⟩
    · rw [e32]
      exact (List.append_nil _).symm
    · rw [l32]
      omega
  · rintro i σ' H' hi ⟨line, code, y, z, gs, rfl, bt, hd, hc, hgs, hap, hline, hll⟩
    have hp2 := bt _ _ hne hp
    obtain ⟨zi, hzi⟩ : ∃ zi, zs[i]? = some zi := ⟨zs[i], List.getElem?_eq_getElem hi⟩
    obtain ⟨zi0, zi1⟩ := hz zi (List.mem_of_getElem? hzi)
    have hgl : gs.length = i := by
      have := congrArg List.length hgs
      rw [List.length_map, List.length_map, List.length_take] at this
      omega
    refine ⟨fun σ' H' => ∃ (code : Int), σ' = [some (.ref st), some (.ref p), some (.str line), some (.ref c), some (.int code), some (.int (0 + i)), z] ∧ Bt st H H' ∧ DrAt H' st scr ∧ H' c = some (.lst ((cols (1 + ld.toNat) gs).map colV)), ?_, ?_⟩
    · refine ⟨by decide, ?_⟩
      refine ite2 (fun e => ?_) (fun e => ?_)
      · refine ⟨st, scr, _, rfl, hd, by decide, many_small (by decide) (by decide), fun r l' r0 r1 hd' => ?_⟩
        exact ⟨r, rfl, bt.trans Bt.st, hd', by rw [upd_ne cs]; exact hc⟩
      · exact ⟨code, rfl, bt, hd, hc⟩
    · rintro σ' H' ⟨code, rfl, bt, hd, hc⟩
      have hp2 := bt _ _ hne hp
      refine ⟨by decide, ?_⟩
      have g0 := Int.emod_nonneg code (by decide : (3 : Int) ≠ 0)
      have g1 := Int.emod_lt_of_pos code (by decide : (0 : Int) < 3)
      refine ⟨.inl ⟨by decide, by decide⟩, ?_⟩
      refine ⟨fun σ' H' => ∃ (code g : Int), σ' = [some (.ref st), some (.ref p), some (.str line), some (.ref c), some (.int code), some (.int (0 + i)), some (.int g)] ∧ Bt st H H' ∧ DrAt H' st scr ∧ H' c = some (.lst ((cols (1 + ld.toNat) gs).map colV)) ∧ 0 ≤ g ∧ g ≤ 2 ∧
        ∀ x, gs.getLast? = some x → g = 0 → touchB x.2 zi.cps.toList = false, ?_, ?_⟩
      · have hlast : ∀ x, gs.getLast? = some x → ∃ zj, zs[i - 1]? = some zj ∧ x.2 = zj.cps.toList ∧ 0 < i := fun x hx => by
          rw [List.getLast?_eq_getElem?, hgl] at hx
          have hi0 : 0 < i := by
            have := (List.getElem?_eq_some_iff.mp hx).1
            omega
          have h2 := congrArg (·[i - 1]?) hgs
          simp only [List.getElem?_map, hx, List.getElem?_take] at h2
          rw [if_pos (by omega)] at h2
          cases h3 : zs[i - 1]? with
          | none => rw [h3] at h2; cases h2
          | some zj => rw [h3] at h2; exact ⟨zj, rfl, Option.some.inj h2, hi0⟩
        refine ite2 (fun e => ?_) (fun e => ?_)
        · have e : code % 3 = 0 := of_decide_eq_true e
          refine ite2 (fun e2 => ?_) (fun e2 => ?_)
          · have e2 : (0 : Int) < 0 + i := of_decide_eq_true e2
            have hj : i - 1 < zs.length := by omega
            have hzj : zs[i - 1]? = some zs[i - 1] := List.getElem?_eq_getElem hj
            obtain ⟨zj0, zj1⟩ := hz _ (List.mem_of_getElem? hzj)
            refine ⟨_, .inl (SqL.of hp2), .str zs[i - 1], ?_, _, .inl (SqL.of hp2), .str zi, ?_, ?_⟩
            · rw [show (0 : Int) + i - 1 = ((i - 1 : Nat) : Int) by omega]
              exact atI_nat (by rw [List.getElem?_map, hzj]; rfl)
            · rw [show (0 : Int) + i = ((i : Nat) : Int) by omega]
              exact atI_nat (by rw [List.getElem?_map, hzi]; rfl)
            refine ⟨_, zi, rfl, zj0, by omega, zi0, by omega, fun H2 sm => ?_⟩
            have bt2 := bt.trans (Bt.same (st := st) sm)
            refine ite2 (fun e3 => ?_) (fun e3 => ?_)
            · exact ⟨_, 1, rfl, bt2, hd.new sm, sm _ _ hc, by decide, by decide, fun x hx h => absurd h (by decide)⟩
            · refine ⟨_, _, rfl, bt2, hd.new sm, sm _ _ hc, g0, by omega, fun x hx _ => ?_⟩
              obtain ⟨zj, h1, h2, _⟩ := hlast x hx
              rw [hzj] at h1
              cases h1
              rw [h2]
              exact Bool.eq_false_iff.mpr e3
          · refine ⟨_, _, rfl, bt, hd, hc, g0, by omega, fun x hx _ => ?_⟩
            obtain ⟨zj, h1, h2, h3⟩ := hlast x hx
            exact absurd (decide_eq_true (show (0 : Int) < 0 + i by omega)) e2
        · exact ⟨_, _, rfl, bt, hd, hc, g0, by omega, fun x hx h => absurd (decide_eq_true h) e⟩
      · rintro σ' H' ⟨code, g, rfl, bt, hd, hc, g0, g1, hg⟩
        have hp2 := bt _ _ hne hp
        refine ⟨by omega, by omega, by decide, ?_⟩
        refine ⟨line_of (by rw [l32]; omega), ?_⟩
        have la : (line ++ repS " " g).length = line.length + g.toNat := by rw [len_add, l32]
        have hcl : (cols (1 + ld.toNat) gs).length = i := by rw [cols_len]; exact hgl
        refine ⟨.inl ⟨rfl, _, SqL.of hc⟩, line_of (by omega), c, _, _, rfl, rfl, hc, line_lt (by rw [List.length_map, hcl]; omega), ?_⟩
        have bt3 : ∀ (o : HO), Bt st H (upd H' c o) := fun o b u nb hb => by
          rw [upd_ne (ne_of_none hb c0)]
          exact bt b u nb hb
        refine ⟨_, .inl (SqL.of (bt3 _ _ _ hne hp)), .str zi, ?_, ?_⟩
        · rw [show (0 : Int) + i = ((i : Nat) : Int) by omega]
          exact atI_nat (by rw [List.getElem?_map, hzi]; rfl)
        refine ⟨line_of (by omega), ?_⟩
        refine ⟨_, code, _, _, gs ++ [(g.toNat, zi.cps.toList)], rfl, bt3 _, hd.at cs cc, ?_, ?_, apart_snoc hap ?_ (fun x hx e => hg x hx (by omega)), ?_, ?_⟩
        · rw [upd_same, cols_snoc, List.map_append]
          have : colV (1 + ld.toNat + (lay gs []).length + g.toNat) = V.int (((line ++ repS " " g).length : Int) + 1) := by
            have : line.length = ld.toNat + (lay gs []).length := by rw [← len_cps, hline, List.length_append, List.length_replicate]
            show V.int _ = _
            congr 1
            omega
          rw [← this]
          rfl
        · rw [List.map_append, hgs, take_snoc hzi, List.map_append]
          rfl
        · intro e
          have := len_cps zi
          rw [e] at this
          have : zi.length = 0 := this.symm
          omega
        · rw [cps_add, cps_add, hline, e32, lay_snoc, List.append_assoc, List.append_assoc]
        · rw [len_add, la]
          omega
  · rintro σ' H' ⟨line, code, y, z, gs, rfl, bt, hd, hc, hgs, hap, hline, hll⟩
    refine ⟨st, scr, _, rfl, hd, by decide, many_small (by decide) (by decide), fun r l' r0 r1 hd' => ?_⟩
    refine ⟨by omega, by omega, by decide, ?_⟩
    refine ⟨line_of (by rw [l32]; omega), ?_⟩
    refine ⟨(by show 2 ≤ sizeLine; decide), fun t nt => ?_⟩
    have bt2 := bt.trans (Bt.st (st := st) (o := .lst l'))
    refine q _ t c _ ld.toNat r.toNat gs (bt2.trans (.same (same_new nt))) (hd'.new (same_new nt)) (bt2.free (hd'.ne_new nt) nt) c0 upd_same (same_new nt _ _ (by rw [upd_ne cs]; exact hc)) ?_ hap ?_ ?_
    · rw [hgs, List.take_length]
    · rw [cps_add, hline, e32, lay_tail (t := List.replicate r.toNat 32), List.append_assoc]
    · rw [len_add, l32]
      omega
end
section
variable {P : Program} {w : World} {K : PySem.W.Frag} {mg : Str → Option Value} {base : Heap}
variable {t_DIGITS t_LETTERS : Tok} {a_MARKS a_SIGNS a_BadName a_BadText a_ElseputError : Addr}
/-! ### run_end -/
def runN (f : Nat → Bool) (l : List Nat) : Nat := (l.takeWhile f).length
theorem runN_le (f : Nat → Bool) (l : List Nat) : runN f l ≤ l.length := (List.takeWhile_sublist f).length_le
def sp_run_end (K : PySem.W.Frag) : Sp := fun vs H Q _ => ∃ (z cs : Str) (a : Nat), vs = [.str z, .int a, .str cs] ∧ a ≤ z.length ∧ z.length ≤ 20000 ∧ Q (.int ((a + runN (fun c => decide (c ∈ cs.cps.toList)) (z.cps.toList.drop a) : Nat) : Int)) H
theorem len_run_end {vs : List V} {H : Hp} {Q : VK} {E : XK} (h : sp_run_end K vs H Q E) : vs.length = 3 := by
  obtain ⟨_, _, _, rfl, _⟩ := h
  rfl
theorem drop_cons {z : Str} {e : Nat} (h : e < z.length) : ∃ c, z.cps.toList[e]? = some c ∧ z.cps.toList.drop e = c :: z.cps.toList.drop (e + 1) := by
  have hl : e < z.cps.toList.length := by rw [len_cps]; exact h
  exact ⟨_, List.getElem?_eq_getElem hl, List.drop_eq_getElem_cons hl⟩
theorem ok_run_end {f : Addr} {fd : FuncData} (F : Fun K "run_end" "run_end" s_run_end f fd) (T : Gs K mg t_DIGITS t_LETTERS a_MARKS a_SIGNS a_BadName a_BadText a_ElseputError) : FnOk P w K mg base CX0 1 f fd ["line", "at", "characters"] (sp_run_end K) := by
  refine F.ok sc_run_end (fun vs H Q E h => len_run_end h) (fun cdv A outer s H vs Q E hr h => ?_)
  obtain ⟨z, cs, a, rfl, ha, hz, q⟩ := h
  refine ⟨_, (pss_cons (ps_set (i := 3) sc_run_end.nd rfl (.inl rfl) (v_ 1)) (pss_cons (ps_while PassesOwn.never (PW.pt (pw_and (pt_c op_ltM (v_ 3) (pe_callB (lenK K) (by rfl) T.z_len PySem.boot_len (pa_cons (v_ 0) pa_nil))) (pw_and1 (pt_c (inK K) (e_x K (v_ 0) (v_ 3)) (v_ 2))))) (pss_one (ps_aug (i := 3) sc_run_end.nd rfl (.inl rfl) pe_int ip_add))) (pss_one (ps_ret (v_ 3))))), ?_⟩
  generalize hf : (fun c => decide (c ∈ cs.cps.toList)) = f at q
  refine ⟨fun m σ' H' => ∃ e : Nat, m = z.length - e ∧ a ≤ e ∧ e ≤ z.length ∧ σ' = [some (.str z), some (.int a), some (.str cs), some (.int e)] ∧ H' = H ∧ a + runN f (z.cps.toList.drop a) = e + runN f (z.cps.toList.drop e), ⟨_, a, rfl, Nat.le_refl _, ha, rfl, rfl, rfl⟩, ?_⟩
  rintro m σ' H' ⟨e, rfl, h1, h2, rfl, rfl, he⟩
  refine ⟨line_of (by omega), ?_⟩
  have stop : runN f (z.cps.toList.drop e) = 0 → Q (.int e) H' := fun h => by
    rw [he, h, Nat.add_zero] at q
    exact q
  refine ite2 (fun e1 => ?_) (fun e1 => ?_)
  · have e1 : (e : Int) < z.length := of_decide_eq_true e1
    obtain ⟨c, hc, hd⟩ := drop_cons (z := z) (e := e) (by omega)
    refine ⟨line_of (by omega), c, atI_nat hc, c, rfl, ?_⟩
    have hfc : decide (c ∈ cs.cps.toList) = f c := by rw [← hf]
    cases hb : f c with
    | true =>
      have : decide (c ∈ cs.cps.toList) = true := hfc.trans hb
      simp only [this, if_true]
      refine ⟨fun σ2 H2 => ∃ m', m' < z.length - e ∧ ∃ e : Nat, m' = z.length - e ∧ a ≤ e ∧ e ≤ z.length ∧ σ2 = [some (.str z), some (.int a), some (.str cs), some (.int e)] ∧ H2 = H' ∧ a + runN f (z.cps.toList.drop a) = e + runN f (z.cps.toList.drop e), fun _ _ h => h, ?_⟩
      refine ⟨_, rfl, _, _, rfl, rfl, _, (by omega : z.length - (e + 1) < z.length - e), e + 1, rfl, by omega, by omega, ?_, rfl, ?_⟩
      · rfl
      · rw [he, hd]
        unfold runN
        rw [List.takeWhile_cons, hb, if_pos rfl, List.length_cons]
        omega
    | false =>
      have : decide (c ∈ cs.cps.toList) = false := hfc.trans hb
      simp only [this, Bool.false_eq_true, if_false]
      refine stop ?_
      rw [hd]
      unfold runN
      rw [List.takeWhile_cons, hb]
      rfl
  · have e1 : ¬ (e : Int) < z.length := of_decide_eq_false (Bool.eq_false_iff.mpr e1)
    refine stop ?_
    have h3 : (z.cps.toList.drop e).length = 0 := by
      rw [List.length_drop, len_cps]
      omega
    have := runN_le f (z.cps.toList.drop e)
    omega

/-! ### token_end -/
theorem cutS_mid {z : Str} {a b : Nat} (h : a ≤ b) : (cutS z (some (a : Int)) (some (b : Int))).cps.toList = (z.cps.toList.drop a).take (b - a) := by
  unfold cutS
  rw [List.toList_toArray, HT.sIx_nat, HT.sIx_nat]
  by_cases ha : a ≤ z.length
  · rw [Nat.min_eq_left ha, List.take_eq_take_iff, List.length_drop, len_cps]
    omega
  · rw [Nat.min_eq_right (by omega : z.length ≤ a), List.drop_of_length_le (by rw [len_cps]; exact Nat.le_refl _), List.drop_of_length_le (by rw [len_cps]; omega), List.take_nil, List.take_nil]
theorem tokLen_run (c : Nat) (r : List Nat) : tokLen (c :: r) = if isL c then runN isL (c :: r) else if isD c then runN isD (c :: r) else if c = 45 then (if runN isD r = 0 then 0 else 1 + runN isD r) else if inSM ((c :: r).take 2) then ((c :: r).take 2).length else if inSM [c] then 1 else 0 := rfl
theorem isL_fn : (fun c => decide (c ∈ letters.cps.toList)) = isL := funext fun c => by rw [letters_cps]; rfl
theorem isD_fn : (fun c => decide (c ∈ ("0123456789" : Str).cps.toList)) = isD := funext fun c => by rw [digits_cps]; rfl
def sp_token_end (K : PySem.W.Frag) : Sp := fun vs H Q _ => ∃ (z : Str) (a : Nat), vs = [.str z, .int a] ∧ a < z.length ∧ z.length ≤ 20000 ∧ ∀ H', Same H H' → Q (.int ((a + tokLen (z.cps.toList.drop a) : Nat) : Int)) H'
theorem len_token_end {vs : List V} {H : Hp} {Q : VK} {E : XK} (h : sp_token_end K vs H Q E) : vs.length = 2 := by
  obtain ⟨_, _, rfl, _⟩ := h
  rfl
theorem sg_in {z : Str} : inV (.str z) [.str "<", .str "<=", .str "==", .str "!=", .str ">=", .str ">"] = decide (z.cps.toList ∈ SG) := by
  refine (inV_str (z := z) (xs := ["<", "<=", "==", "!=", ">=", ">"])).trans ?_
  rw [show (["<", "<=", "==", "!=", ">=", ">"] : List Str).map (·.cps.toList) = SG by decide +kernel]
theorem mk_in {z : Str} : inV (.str z) [.str "(", .str ")", .str ",", .str ";", .str ":"] = decide (z.cps.toList ∈ MK) := by
  refine (inV_str (z := z) (xs := ["(", ")", ",", ";", ":"])).trans ?_
  rw [show (["(", ")", ",", ";", ":"] : List Str).map (·.cps.toList) = MK by decide +kernel]
theorem ok_token_end {f : Addr} {fd : FuncData} {f_run_end : Addr} {fd_run_end : FuncData} (F : Fun K "token_end" "token_end" s_token_end f fd) (T : Gs K mg t_DIGITS t_LETTERS a_MARKS a_SIGNS a_BadName a_BadText a_ElseputError) (c_run_end : Cal P w K mg base CX0 1 "run_end" f_run_end fd_run_end ["line", "at", "characters"] (sp_run_end K)) : FnOk P w K mg base CX0 2 f fd ["line", "at"] (sp_token_end K) := by
  refine F.ok sc_token_end (fun vs H Q E h => len_token_end h) (fun cdv A outer s H vs Q E hr h => ?_)
  obtain ⟨z, a, rfl, ha, hz, q⟩ := h
  refine ⟨_, (pss_cons (ps_if (pt_c (inK K) (e_x K (v_ 0) (v_ 1)) (pe_glob (v := .str "abcdefghijklmnopqrstuvwxyz") rfl T.g_LETTERS ⟨_, rfl⟩)) (pss_one (ps_ret (pe_call c_run_end.G (hr.mono (by first | decide | omega)) rfl c_run_end.m c_run_end.kp c_run_end.b .nil pass0 (pa_cons (v_ 0) (pa_cons (v_ 1) (pa_cons (pe_glob (v := .str "abcdefghijklmnopqrstuvwxyz") rfl T.g_LETTERS ⟨_, rfl⟩) pa_nil)))))) pss_nil) (pss_cons (ps_if (pt_c (inK K) (e_x K (v_ 0) (v_ 1)) (pe_glob (v := .str "0123456789") rfl T.g_DIGITS ⟨_, rfl⟩)) (pss_one (ps_ret (pe_call c_run_end.G (hr.mono (by first | decide | omega)) rfl c_run_end.m c_run_end.kp c_run_end.b .nil pass0 (pa_cons (v_ 0) (pa_cons (v_ 1) (pa_cons (pe_glob (v := .str "0123456789") rfl T.g_DIGITS ⟨_, rfl⟩) pa_nil)))))) pss_nil) (pss_cons (ps_if (pt_c (eqK K hr.units) (e_x K (v_ 0) (v_ 1)) pe_str) (pss_cons (ps_set (i := 3) sc_token_end.nd rfl (.inl rfl) (pe_call c_run_end.G (hr.mono (by first | decide | omega)) rfl c_run_end.m c_run_end.kp c_run_end.b .nil pass0 (pa_cons (v_ 0) (pa_cons (pe_op (addK K) (v_ 1) pe_int) (pa_cons (pe_glob (v := .str "0123456789") rfl T.g_DIGITS ⟨_, rfl⟩) pa_nil))))) (pss_one (ps_ret (pe_ifExp (pt_c op_gtM (v_ 3) (pe_op (addK K) (v_ 1) pe_int)) (v_ 3) (v_ 1))))) pss_nil) (pss_cons (ps_for PassesOwn.never rfl (pi_tup (pe_tup (pa_cons (pe_slice (slK K) (v_ 0) (po_some (v_ 1)) (po_some (pe_op (addK K) (v_ 1) pe_int))) (pa_cons (e_x K (v_ 0) (v_ 1)) pa_nil)))) (pg_name (i := 2) sc_token_end.nd rfl (.inl rfl)) (pss_one (ps_if (PW.pt (pw_or (pt_c (inK K) (v_ 2) (pe_glob (v := .ref a_SIGNS) rfl T.g_SIGNS rfl)) (pw_or1 (pt_c (inK K) (v_ 2) (pe_glob (v := .ref a_MARKS) rfl T.g_MARKS rfl))))) (pss_one (ps_ret (pe_op (addK K) (v_ 1) (pe_callB (lenK K) (by rfl) T.z_len PySem.boot_len (pa_cons (v_ 2) pa_nil))))) pss_nil))) (pss_one (ps_ret (v_ 1))))))), ?_⟩
  obtain ⟨c, hc, hd⟩ := drop_cons (z := z) (e := a) (by omega)
  have hl : z.length ≤ sizeLine := line_of (by omega)
  have bf : ∀ {c : Bool}, ¬ c = true → c = false := fun h => Bool.eq_false_iff.mpr h
  have mL : decide (c ∈ letters.cps.toList) = isL c := congrFun isL_fn c
  have mD : decide (c ∈ ("0123456789" : Str).cps.toList) = isD c := congrFun isD_fn c
  have m45 : decide ((⟨#[c]⟩ : Str) = "-") = decide (c = 45) := by
    rw [Bool.eq_iff_iff, decide_eq_true_iff, decide_eq_true_iff, one_eq (d := 45) rfl]
  have q1 : ∀ {n : Nat} {H' : Hp}, Same H H' → tokLen (z.cps.toList.drop a) = n → Q (.int ((a + n : Nat) : Int)) H' := fun s e => e ▸ q _ s
  rw [hd, tokLen_run] at q1
  refine ⟨hl, c, atI_nat hc, c, rfl, ?_⟩
  refine ite2 (fun e1 => ?_) (fun e1 => ?_)
  · have e1 : isL c = true := mL.symm.trans e1
    refine ⟨z, _, a, rfl, by omega, hz, ?_⟩
    have := q1 (Same.refl H) (if_pos e1)
    rw [← hd] at this
    have e : (fun c => decide (c ∈ letters.cps.toList)) = isL := isL_fn
    rw [e]
    exact this
  have e1 : isL c = false := mL.symm.trans (bf e1)
  refine ⟨hl, c, atI_nat hc, c, rfl, ?_⟩
  refine ite2 (fun e2 => ?_) (fun e2 => ?_)
  · have e2 : isD c = true := mD.symm.trans e2
    refine ⟨z, _, a, rfl, by omega, hz, ?_⟩
    have := q1 (Same.refl H) ((if_neg (by rw [e1]; decide)).trans (if_pos e2))
    rw [← hd] at this
    have e : (fun c => decide (c ∈ ("0123456789" : Str).cps.toList)) = isD := isD_fn
    rw [e]
    exact this
  have e2 : isD c = false := mD.symm.trans (bf e2)
  have q2 : ∀ {n : Nat} {H' : Hp}, Same H H' → (if c = 45 then (if runN isD (z.cps.toList.drop (a + 1)) = 0 then 0 else 1 + runN isD (z.cps.toList.drop (a + 1))) else if inSM ((c :: z.cps.toList.drop (a + 1)).take 2) then ((c :: z.cps.toList.drop (a + 1)).take 2).length else if inSM [c] then 1 else 0) = n → Q (.int ((a + n : Nat) : Int)) H' := fun s e =>
    q1 s (((if_neg (by rw [e1]; decide)).trans (if_neg (by rw [e2]; decide))).trans e)
  refine ⟨hl, c, atI_nat hc, ?_⟩
  refine ite2 (fun e3 => ?_) (fun e3 => ?_)
  · have e3 : c = 45 := of_decide_eq_true (m45.symm.trans e3)
    refine ⟨z, _, a + 1, rfl, by omega, hz, ?_⟩
    have e : (fun c => decide (c ∈ ("0123456789" : Str).cps.toList)) = isD := isD_fn
    rw [e]
    generalize hk : runN isD (z.cps.toList.drop (a + 1)) = k at q2 ⊢
    have q2' := fun {n : Nat} (h : (if k = 0 then 0 else 1 + k) = n) => q2 (Same.refl H) ((if_pos e3).trans h)
    refine ite2 (fun e4 => ?_) (fun e4 => ?_)
    · have e4 : (a : Int) + 1 < ((a + 1 + k : Nat) : Int) := of_decide_eq_true e4
      have := q2' (if_neg (by omega))
      rw [← Nat.add_assoc] at this
      exact this
    · have e4 : ¬ (a : Int) + 1 < ((a + 1 + k : Nat) : Int) := of_decide_eq_false (bf e4)
      exact q2' (if_pos (by omega))
  have e3 : ¬ c = 45 := of_decide_eq_false (m45.symm.trans (bf e3))
  have q3 : ∀ {n : Nat} {H' : Hp}, Same H H' → (if inSM ((c :: z.cps.toList.drop (a + 1)).take 2) then ((c :: z.cps.toList.drop (a + 1)).take 2).length else if inSM [c] then 1 else 0) = n → Q (.int ((a + n : Nat) : Int)) H' := fun s e => q2 s ((if_neg e3).trans e)
  have hcut : (cutS z (some (a : Int)) (some ((a : Int) + 2))).cps.toList = (c :: z.cps.toList.drop (a + 1)).take 2 := by
    have := cutS_mid (z := z) (a := a) (b := a + 2) (by omega)
    rw [hd, show a + 2 - a = 2 by omega] at this
    exact this
  refine ⟨_, rfl, _, rfl, hl, hl, c, atI_nat hc, (by show 2 ≤ sizeLine; decide), fun t nt => ⟨t, rfl, ⟨_, .inl (.inl upd_same)⟩, ?_⟩⟩
  have hin : ∀ y : Str, inSM y.cps.toList = (inV (.str y) [.str "<", .str "<=", .str "==", .str "!=", .str ">=", .str ">"] || inV (.str y) [.str "(", .str ")", .str ",", .str ";", .str ":"]) := fun y => by
    rw [sg_in, mk_in]
    rfl
  have sm : Same H (upd H t (.tup [.str (cutS z (some (a : Int)) (some ((a : Int) + 2))), .str ⟨#[c]⟩])) := same_new nt
  refine for_tup (K := K) (a := t) (xs := [.str (cutS z (some (a : Int)) (some ((a : Int) + 2))), .str ⟨#[c]⟩]) (fun i σ' H' => H' = upd H t (.tup [.str (cutS z (some (a : Int)) (some ((a : Int) + 2))), .str ⟨#[c]⟩]) ∧ (∃ y w, σ' = [some (.str z), some (.int a), y, w]) ∧
    (1 ≤ i → inSM ((c :: z.cps.toList.drop (a + 1)).take 2) = false) ∧ (2 ≤ i → inSM [c] = false)) ⟨rfl, ⟨_, _, rfl⟩, fun h => absurd h (by decide), fun h => absurd h (by decide)⟩ (fun i σ' H' _ h => by rw [h.1]; exact .inl (.inl upd_same)) ?_ ?_
  · rintro i x σ' H' hi ⟨rfl, ⟨y, w, rfl⟩, g1, g2⟩
    obtain ⟨p, rfl, hp, hlen, hyes, hno⟩ : ∃ p : Str, x = .str p ∧ p.length ≤ 2 ∧ p.length ≤ sizeLine ∧ (inSM p.cps.toList = true → Q (.int ((a : Int) + p.length)) (upd H t (.tup [.str (cutS z (some (a : Int)) (some ((a : Int) + 2))), .str ⟨#[c]⟩]))) ∧
        (inSM p.cps.toList = false → (1 ≤ i + 1 → inSM ((c :: z.cps.toList.drop (a + 1)).take 2) = false) ∧ (2 ≤ i + 1 → inSM [c] = false)) := by
      match i, hi with
      | 0, hi =>
        cases hi
        have l2 : (cutS z (some (a : Int)) (some ((a : Int) + 2))).length = ((c :: z.cps.toList.drop (a + 1)).take 2).length := by rw [← hcut, len_cps]
        have l3 : ((c :: z.cps.toList.drop (a + 1)).take 2).length ≤ 2 := by rw [List.length_take]; omega
        refine ⟨_, rfl, by omega, line_of (by omega), fun h => ?_, fun h => ⟨fun _ => by rw [← hcut]; exact h, fun h2 => absurd h2 (by decide)⟩⟩
        rw [hcut] at h
        have := q3 sm (if_pos h)
        rw [← l2] at this
        exact this
      | 1, hi =>
        cases hi
        refine ⟨_, rfl, (by rw [one_len]; decide), line_of (by rw [one_len]; decide), fun h => ?_, fun h => ⟨fun _ => g1 (by decide), fun _ => h⟩⟩
        exact q3 sm ((if_neg (by rw [g1 (by decide)]; decide)).trans (if_pos h))
      | i + 2, hi => cases hi
    rw [hin] at hyes hno
    refine ⟨_, .inr (T.q_SIGNS _), rfl, rfl, ?_⟩
    refine ite2 (fun e5 => ?_) (fun e5 => ?_)
    · exact ⟨hlen, hyes (by rw [show inV (.str p) [.str "<", .str "<=", .str "==", .str "!=", .str ">=", .str ">"] = true from e5]; rfl)⟩
    refine ⟨_, .inr (T.q_MARKS _), rfl, rfl, ?_⟩
    refine ite2 (fun e6 => ?_) (fun e6 => ?_)
    · exact ⟨hlen, hyes (by rw [show inV (.str p) [.str "(", .str ")", .str ",", .str ";", .str ":"] = true from e6, Bool.or_true])⟩
    have := hno (by rw [show inV (.str p) [.str "<", .str "<=", .str "==", .str "!=", .str ">=", .str ">"] = false from bf e5, show inV (.str p) [.str "(", .str ")", .str ",", .str ";", .str ":"] = false from bf e6]; rfl)
    exact ⟨rfl, ⟨_, _, rfl⟩, this.1, this.2⟩
  · rintro σ' H' ⟨rfl, ⟨y, w, rfl⟩, g1, g2⟩
    have g1' := g1 (by show 1 ≤ 2; decide)
    have g2' := g2 (by show 2 ≤ 2; decide)
    exact q3 sm ((if_neg (by rw [g1']; decide)).trans (if_neg (by rw [g2']; decide)))

/-! ### split_line -/
def PairL (H : Hp) : List Addr → List (List Nat × Nat) → Prop
  | [], [] => True
  | t :: ts, x :: xs => (∃ z : Str, H t = some (.tup [.str z, .int (x.2 : Int)]) ∧ z.cps.toList = x.1) ∧ PairL H ts xs
  | _, _ => False
theorem PairL.same {H H' : Hp} (s : ∀ b o, (∃ z i, o = HO.tup [.str z, .int i]) → H b = some o → H' b = some o) : ∀ {ts : List Addr} {l : List (List Nat × Nat)}, PairL H ts l → PairL H' ts l
  | [], [], _ => trivial
  | t :: ts, x :: xs, ⟨⟨z, h1, h2⟩, h⟩ => ⟨⟨z, s _ _ ⟨_, _, rfl⟩ h1, h2⟩, PairL.same s h⟩
theorem PairL.snoc {H : Hp} {t : Addr} {z : Str} {n : Nat} (e : H t = some (.tup [.str z, .int (n : Int)])) : ∀ {ts : List Addr} {l : List (List Nat × Nat)}, PairL H ts l → PairL H (ts ++ [t]) (l ++ [(z.cps.toList, n)])
  | [], [], _ => ⟨⟨z, e, rfl⟩, trivial⟩
  | _ :: _, _ :: _, ⟨h1, h⟩ => ⟨h1, PairL.snoc e h⟩
theorem PairL.len {H : Hp} : ∀ {ts : List Addr} {l : List (List Nat × Nat)}, PairL H ts l → ts.length = l.length
  | [], [], _ => rfl
  | _ :: _, _ :: _, ⟨_, h⟩ => by rw [List.length_cons, List.length_cons, h.len]
/-- what split_line answers: the pairs, or the column of the strange sign in line num -/
def Splits (K : PySem.W.Frag) (H : Hp) (z : Str) (num : Int) (Q : VK) (E : XK) : Prop := match splitL z.cps.toList 1 with
  | .ok l => ∀ (H' : Hp) (p : Addr) (ts : List Addr), Same H H' → H p = none → H' p = some (.lst (ts.map V.ref)) → PairL H' ts l → Q (.ref p) H'
  | .error c => ∀ (C d : Addr) (H' : Hp), PySem.W.nsIn K mainGlobals "BadText" = some (some (.ref C)) → Same H H' → H d = none → H' d = some (.xd [("column", .int (c : Int)), ("line", .int num)]) → E (.ref C) (some d) H'
def sp_split_line (K : PySem.W.Frag) : Sp := fun vs H Q E => ∃ (z : Str) (num : Int), vs = [.str z, .int num] ∧ z.length ≤ 20000 ∧ 0 ≤ num ∧ num ≤ 100000 ∧ Splits K H z num Q E
theorem len_split_line {vs : List V} {H : Hp} {Q : VK} {E : XK} (h : sp_split_line K vs H Q E) : vs.length = 2 := by
  obtain ⟨_, _, rfl, _⟩ := h
  rfl
end
section
variable {P : Program} {w : World} {K : PySem.W.Frag} {mg : Str → Option Value} {base : Heap}
variable {t_DIGITS t_LETTERS : Tok} {a_MARKS a_SIGNS a_BadName a_BadText a_ElseputError : Addr}
def okx_BadText (ws : List V) : Prop := ∃ l c : Int, ws = [.int l, .int c] ∧ 0 ≤ l ∧ l ≤ 100000 ∧ 0 ≤ c ∧ c ≤ 100000
def fs_BadText (ws : List V) : List (Str × V) := match ws with | [l, c] => [("column", c), ("line", l)] | _ => []
theorem len_spE {C : Addr} {ok : List V → Prop} {fs : List V → List (Str × V)} {n : Nat} (hn : ∀ ws, ok ws → ws.length = n) {vs : List V} {H : Hp} {Q : VK} {E : XK} (h : spE C ok fs vs H Q E) : vs.length = n + 1 := by
  obtain ⟨a, ws, rfl, h, _⟩ := h
  rw [List.length_cons, hn _ h]
theorem log_small {i : Int} (h0 : 0 ≤ i) (h1 : i ≤ 100000) : i.natAbs.log2 < 1920 := by
  by_cases hz : i.natAbs = 0
  · rw [hz]
    decide
  · refine (Nat.log2_lt hz).mpr ?_
    have : i.natAbs ≤ 100000 := by omega
    exact Nat.lt_of_le_of_lt this (Nat.lt_of_lt_of_le (show 100000 < 2 ^ 17 by decide) (Nat.pow_le_pow_right (by decide) (by decide)))
theorem text_small {i : Int} (h0 : 0 ≤ i) (h1 : i ≤ 100000) : (Str.ofString (toString i)).length ≤ 6 := toString_length_le h0 (by decide) (by omega)
theorem ok_BadText {C f cc cda : Addr} {doc pm ct oc ccl cl : Value} {od cdd cld : Option Addr} {osl ccs csl : Array (Option Value)} {vs0 : Array Value} {file : Str} {tf : Tok} {cdD : ClassData}
    (X : ExK K C f ["line", "column"]) (lk : K.lookup f = some ⟨oc, od, .func (PySem.W.fnX "__init__" "BadText.__init__" (defArgs s_BadText) (defBody s_BadText) (defScope s_BadText) [("__class__", cc)] .none .none doc pm none (.ref cda) ct), osl⟩)
    (hcd : PySem.W.codeIn K (.ref cda) "BadText.__init__" = true) (hcode : K.lookup cda = some ⟨ccl, cdd, .fields vs0, ccs⟩) (hvs : vs0[2]? = some (.str file tf)) (hfile : ((P.main.file : Str) == file) = true)
    (hcell : K.lookup cc = some ⟨cl, cld, .cell (some (.ref C)), csl⟩) (hD : PySem.W.clsIn K C = some cdD) (hsuper : mg "super" = none) (hop : PySem.W.nsIn K PySem.cStatics "thirdparty.any" = some none) (htop : (P.main.scope.names.lookup ("super" : Str)).isSome = false) :
    FnOk P w K mg base CX0 1 f (PySem.W.fnX "__init__" "BadText.__init__" (defArgs s_BadText) (defBody s_BadText) (defScope s_BadText) [("__class__", cc)] .none .none doc pm none (.ref cda) ct) ["self", "line", "column"] (spE C okx_BadText fs_BadText) := by
  refine fn_super lk hcd sc_BadText hcode hvs hfile hcell hD hsuper hop rfl rfl rfl htop rfl (fun vs H Q E h => len_spE (n := 2) (fun ws h => by obtain ⟨_, _, rfl, _⟩ := h; rfl) h) (fun A outer s H vs Q E hr h => ?_) (fun _ => rfl) (fun _ => rfl) (fun _ => rfl)
  obtain ⟨a, ws, rfl, ⟨l, c, rfl, l0, l1, c0, c1⟩, ea, q⟩ := h
  refine ⟨a, C, _, _, rfl, ea, X.oex, X.mro, X.sup, X.subV, pa_cons (pe_joined (.cons pe_str (.cons (pe_fmt (v_ 1)) (.cons pe_str (.cons (pe_fmt (v_ 2)) .nil))))) pa_nil, pss_cons (ps_ost (v_ 0) (v_ 1)) (pss_one (ps_ost (v_ 0) (v_ 2))), ?_⟩
  have tl := text_small l0 l1
  have tc := text_small c0 c1
  have z0 : Str.empty.length = 0 := rfl
  have z1 : (Str.ofString "line ").length = 5 := rfl
  have z2 : (Str.ofString ", column ").length = 9 := rfl
  refine ⟨_, rfl, line_of (by rw [len_add]; omega), .inr ⟨_, rfl, log_small l0 l1, _, rfl, line_of (by rw [len_add, len_add]; omega), ?_⟩⟩
  refine ⟨_, rfl, line_of (by rw [len_add, len_add, len_add]; omega), .inr ⟨_, rfl, log_small c0 c1, _, rfl, line_of (by rw [len_add, len_add, len_add, len_add]; omega), ?_⟩⟩
  refine ⟨ea, (by show 1 ≤ 1000; decide), ?_⟩
  refine ⟨a, C, rfl, X.oex, X.no _ (by simp), .inl ⟨ea, ost1 ea fun dx H' n ne e1 e2 hh => ?_⟩⟩
  refine ⟨a, C, rfl, X.oex, X.no _ (by simp), .inr ⟨dx, _, e1, e2, (by show 1 ≤ 900; decide), ?_⟩⟩
  exact q dx _ n ne (by rw [upd_ne ne.symm]; exact e1) upd_same fun b h1 h2 => by rw [upd_ne h2]; exact hh b h1 h2

theorem ok_split_line {f : Addr} {fd : FuncData} {f_token_end : Addr} {fd_token_end : FuncData} {f_BadText : Addr} {fd_BadText : FuncData} (F : Fun K "split_line" "split_line" s_split_line f fd) (T : Gs K mg t_DIGITS t_LETTERS a_MARKS a_SIGNS a_BadName a_BadText a_ElseputError) (c_token_end : Cal P w K mg base CX0 2 "token_end" f_token_end fd_token_end ["line", "at"] (sp_token_end K)) (c_BadText : CalE P w K mg base 1 "BadText" a_BadText f_BadText fd_BadText ["self", "line", "column"] okx_BadText fs_BadText ["line", "column"]) : FnOk P w K mg base (L2.CX P w) 3 f fd ["line", "number"] (sp_split_line K) := by
  refine F.okX sc_split_line (fun vs H Q E h => len_split_line h) (fun cdv A outer s H vs Q E hr h => ?_)
  obtain ⟨z, num, rfl, hz, n0, n1, q⟩ := h
  refine ⟨_, (pss_cons (ps_set (i := 2) sc_split_line.nd rfl (.inl rfl) (pe_lst pa_nil)) (pss_cons (ps_set (i := 3) sc_split_line.nd rfl (.inl rfl) pe_int) (pss_cons (ps_while (passes_of rfl) (pt_c op_ltM (v_ 3) (pe_callB (lenK K) (by rfl) T.z_len PySem.boot_len (pa_cons (v_ 0) pa_nil))) (pss_cons (ps_set (i := 4) sc_split_line.nd rfl (.inl rfl) (pe_call c_token_end.G (hr.mono (by first | decide | omega)) rfl c_token_end.m c_token_end.kp c_token_end.b .nil pass0 (pa_cons (v_ 0) (pa_cons (v_ 3) pa_nil)))) (pss_one (ps_if (pt_c op_gtM (v_ 4) (v_ 3)) (pss_cons (ps_expr (pe_bm PySem.F.plainAttrs_list PySem.F.slot_list_append PySem.F.type_list_append mt_append (v_ 2) (pa_cons (pe_tup (pa_cons (pe_slice (slK K) (v_ 0) (po_some (v_ 3)) (po_some (v_ 4))) (pa_cons (pe_op (addK K) (v_ 3) pe_int) pa_nil))) pa_nil))) (pss_one (ps_set (i := 3) sc_split_line.nd rfl (.inl rfl) (v_ 4)))) (pss_one (ps_if (pt_c (eqK K hr.units) (e_x K (v_ 0) (v_ 3)) pe_str) (pss_one (ps_aug (i := 3) sc_split_line.nd rfl (.inl rfl) pe_int ip_add)) (pss_one (ps_raise rfl (takes_of rfl rfl rfl rfl) (pmk_oex c_BadText.X.oex c_BadText.X.iC c_BadText.X.tI c_BadText.G (hr.mono (by first | decide | omega)) c_BadText.b .nil pass0 rfl c_BadText.m (pa_cons (v_ 1) (pa_cons (pe_op (addK K) (v_ 3) pe_int) pa_nil))))))))))) (pss_one (ps_ret (v_ 2)))))), ?_⟩
  have hl : z.length ≤ sizeLine := line_of (by omega)
  have bf : ∀ {c : Bool}, ¬ c = true → c = false := fun h => Bool.eq_false_iff.mpr h
  refine ⟨Nat.zero_le _, fun p np => ?_⟩
  refine ⟨fun m σ' H' => ∃ (e : Nat) (y : Option V) (ts : List Addr) (l0 : List (List Nat × Nat)), m = z.length - e ∧ e ≤ z.length ∧ σ' = [some (.str z), some (.int num), some (.ref p), some (.int e), y] ∧ Same H H' ∧ H' p = some (.lst (ts.map V.ref)) ∧ PairL H' ts l0 ∧ l0.length ≤ e ∧
    splitL z.cps.toList 1 = (match splitL (z.cps.toList.drop e) (1 + e) with | .ok l => .ok (l0 ++ l) | .error c => .error c), ⟨_, 0, _, [], [], rfl, Nat.zero_le _, rfl, same_new np, upd_same, trivial, Nat.le_refl _, ?_⟩, ?_⟩
  · rw [List.drop_zero]
    cases splitL z.cps.toList 1 <;> rfl
  rintro m σ' H' ⟨e, y, ts, l0, rfl, he, rfl, sm, hp, hts, hl0, hsp⟩
  refine ⟨hl, ?_⟩
  refine ite2 (fun e1 => ?_) (fun e1 => ?_)
  · have e1 : (e : Int) < z.length := of_decide_eq_true e1
    obtain ⟨c, hc, hd⟩ := drop_cons (z := z) (e := e) (by omega)
    have hk := tokLen_le (z.cps.toList.drop e)
    rw [List.length_drop, len_cps] at hk
    refine ⟨fun σ2 H2 => ∃ m', m' < z.length - e ∧ ∃ (e : Nat) (y : Option V) (ts : List Addr) (l0 : List (List Nat × Nat)), m' = z.length - e ∧ e ≤ z.length ∧ σ2 = [some (.str z), some (.int num), some (.ref p), some (.int e), y] ∧ Same H H2 ∧ H2 p = some (.lst (ts.map V.ref)) ∧ PairL H2 ts l0 ∧ l0.length ≤ e ∧
      splitL z.cps.toList 1 = (match splitL (z.cps.toList.drop e) (1 + e) with | .ok l => .ok (l0 ++ l) | .error c => .error c), fun _ _ h => h, ?_⟩
    refine ⟨z, e, rfl, by omega, hz, fun H2 s2 => ?_⟩
    have sm2 := sm.trans s2
    have hp2 := s2 _ _ hp
    have hts2 := hts.same fun b o _ h => s2 b o h
    generalize hkk : tokLen (z.cps.toList.drop e) = k at hk ⊢
    refine ite2 (fun e2 => ?_) (fun e2 => ?_)
    · have e2 : (e : Int) < ((e + k : Nat) : Int) := of_decide_eq_true e2
      have k0 : 0 < k := by omega
      refine ⟨.inl ⟨rfl, _, SqL.of hp2⟩, _, rfl, _, rfl, hl, (by show 2 ≤ sizeLine; decide), fun t nt => ⟨p, _, _, rfl, rfl, same_new nt _ _ hp2, line_lt (by rw [List.length_map, hts.len]; omega), ?_⟩⟩
      have pt : p ≠ t := ne_of_none hp2 nt
      have tH : H t = none := Same.free sm2 nt
      have ht : upd (upd H2 t (.tup [.str (cutS z (some (e : Int)) (some ((e + k : Nat) : Int))), .int ((e : Int) + 1)])) p (.lst (ts.map V.ref ++ [.ref t])) t = some (.tup [.str (cutS z (some (e : Int)) (some ((e + k : Nat) : Int))), .int (((1 + e : Nat) : Nat) : Int)]) := by
        rw [upd_ne pt.symm, upd_same, show (((1 + e : Nat) : Nat) : Int) = (e : Int) + 1 by omega]
      refine ⟨z.length - (e + k), by omega, e + k, _, ts ++ [t], l0 ++ [((z.cps.toList.drop e).take k, 1 + e)], rfl, by omega, rfl, ?_, ?_, ?_, ?_, ?_⟩
      · intro b o hb
        rw [upd_ne (ne_of_none hb np), upd_ne (ne_of_none hb tH)]
        exact sm2 b o hb
      · rw [upd_same, List.map_append]
        rfl
      · have h1 : PairL (upd (upd H2 t (.tup [.str (cutS z (some (e : Int)) (some ((e + k : Nat) : Int))), .int ((e : Int) + 1)])) p (.lst (ts.map V.ref ++ [.ref t]))) ts l0 := hts2.same fun b o ho hb => by
          obtain ⟨z', i', rfl⟩ := ho
          rw [upd_ne (ne_of hb hp2 (by intro e; cases e)), upd_ne (ne_of_none hb nt)]
          exact hb
        have h2 := h1.snoc ht
        rw [cutS_mid (by omega), show e + k - e = k by omega] at h2
        exact h2
      · rw [List.length_append, List.length_singleton]
        omega
      · rw [hsp, splitL_tok (by rw [hkk]; exact k0), hkk, List.drop_drop, show 1 + e + k = 1 + (e + k) by omega]
        cases splitL (z.cps.toList.drop (e + k)) (1 + (e + k)) with
        | ok l =>
          show Except.ok _ = Except.ok _
          rw [List.append_assoc]
          rfl
        | error c => rfl
    · have e2 : ¬ (e : Int) < ((e + k : Nat) : Int) := of_decide_eq_false (bf e2)
      have k0 : k = 0 := by omega
      subst k0
      have m32 : decide ((⟨#[c]⟩ : Str) = " ") = decide (c = 32) := by
        rw [Bool.eq_iff_iff, decide_eq_true_iff, decide_eq_true_iff, one_eq (d := 32) rfl]
      refine ⟨hl, c, atI_nat hc, ?_⟩
      refine ite2 (fun e3 => ?_) (fun e3 => ?_)
      · have e3 : c = 32 := of_decide_eq_true (m32.symm.trans e3)
        subst e3
        refine ⟨_, rfl, _, _, rfl, rfl, z.length - (e + 1), by omega, e + 1, _, ts, l0, rfl, by omega, rfl, sm2, hp2, hts2, by omega, ?_⟩
        rw [hsp, hd, splitL_space, Nat.add_assoc]
      · have e3 : ¬ c = 32 := of_decide_eq_false (m32.symm.trans (bf e3))
        refine mk_spE (by show 2 ≤ 1000; decide) ⟨num, (e : Int) + 1, rfl, n0, n1, by omega, by omega⟩ (fun d nd => ?_)
        have : splitL z.cps.toList 1 = .error (1 + e) := by
          rw [hsp, hd, splitL_bad (by rw [← hd]; exact hkk) e3]
        unfold Splits at q
        rw [this] at q
        refine q a_BadText d _ T.n_BadText (sm2.trans (same_new nd)) (Same.free sm2 nd) ?_
        rw [upd_same]
        rw [show (((1 + e : Nat) : Nat) : Int) = (e : Int) + 1 by omega]
        rfl
  · have e1 : ¬ (e : Int) < z.length := of_decide_eq_false (bf e1)
    have : z.cps.toList.drop e = [] := List.drop_of_length_le (by rw [len_cps]; omega)
    rw [this, splitL_nil] at hsp
    have hsp : splitL z.cps.toList 1 = .ok (l0 ++ []) := hsp
    unfold Splits at q
    rw [hsp, List.append_nil] at q
    exact q H' p ts sm np hp hts

def sp_tokens (K : PySem.W.Frag) : Sp := fun vs H Q E => ∃ z : Str, vs = [.str z] ∧ z.length ≤ 20000 ∧ Splits K H z 1 Q E
theorem len_tokens {vs : List V} {H : Hp} {Q : VK} {E : XK} (h : sp_tokens K vs H Q E) : vs.length = 1 := by
  obtain ⟨_, rfl, _⟩ := h
  rfl
theorem ok_tokens {f : Addr} {fd : FuncData} {f_split_line : Addr} {fd_split_line : FuncData} (F : Fun K "tokens" "tokens" s_tokens f fd) (T : Gs K mg t_DIGITS t_LETTERS a_MARKS a_SIGNS a_BadName a_BadText a_ElseputError) (c_split_line : Cal P w K mg base (L2.CX P w) 3 "split_line" f_split_line fd_split_line ["line", "number"] (sp_split_line K)) : FnOk P w K mg base (L2.CX P w) 4 f fd ["line"] (sp_tokens K) := by
  refine F.okX sc_tokens (fun vs H Q E h => len_tokens h) (fun cdv A outer s H vs Q E hr h => ?_)
  obtain ⟨z, rfl, hz, q⟩ := h
  refine ⟨_, (pss_one (ps_ret (pe_call c_split_line.G (hr.mono (by first | decide | omega)) rfl c_split_line.m c_split_line.kp c_split_line.b .nil (passes_call (takes_of rfl rfl rfl rfl) (fun _ _ _ _ h => h)) (pa_cons (v_ 0) (pa_cons pe_int pa_nil))))), ?_⟩
  exact ⟨z, 1, rfl, hz, by decide, by decide, q⟩
end
section
variable {P : Program} {w : World} {K : PySem.W.Frag} {mg : Str → Option Value} {base : Heap}
variable {t_DIGITS t_LETTERS : Tok} {a_MARKS a_SIGNS a_BadName a_BadText a_ElseputError : Addr}
/-! ### _law_same -/
def sp__law_is_int (K : PySem.W.Frag) : Sp := fun vs H Q _ => ∃ i : Int, vs = [.int i] ∧ Q (.bl true) H
theorem len__law_is_int {vs : List V} {H : Hp} {Q : VK} {E : XK} (h : sp__law_is_int K vs H Q E) : vs.length = 1 := by
  obtain ⟨_, rfl, _⟩ := h
  rfl
theorem ok__law_is_int {f : Addr} {fd : FuncData} (F : Fun K "_law_is_int" "_law_is_int" s__law_is_int f fd) (T : Gs K mg t_DIGITS t_LETTERS a_MARKS a_SIGNS a_BadName a_BadText a_ElseputError) : FnOk P w K mg base CX0 1 f fd ["_law_thing"] (sp__law_is_int K) := by
  refine F.ok sc__law_is_int (fun vs H Q E h => len__law_is_int h) (fun cdv A outer s H vs Q E hr h => ?_)
  obtain ⟨i, rfl, q⟩ := h
  refine ⟨_, (pss_one (ps_ret (pe_andM (pe_callB (isiK K) (by rfl) T.z_isinstance (by decide +kernel) (pa_cons (v_ 0) (pa_cons (pe_bltn (v := .ty "int") (u := .type "int") (by rfl) T.z_int (by decide +kernel) rfl) pa_nil))) (pe_one (pe_notM (pe_callB (isiK K) (by rfl) T.z_isinstance (by decide +kernel) (pa_cons (v_ 0) (pa_cons (pe_bltn (v := .ty "bool") (u := .type "bool") (by rfl) T.z_bool (by decide +kernel) rfl) pa_nil)))))))), ?_⟩
  refine ⟨_, _, _, _, true, rfl, .ty _, .base (.int i), kit_ty (by decide +kernel), ?_⟩
  exact ⟨_, _, _, _, false, rfl, .ty _, .base (.int i), kit_ty (by decide +kernel), q⟩
def SameV (H : Hp) : Nat → V → V → Prop
  | 0, _, _ => False
  | n + 1, x, y => (∃ i : Int, x = .int i ∧ y = .int i) ∨ (∃ z : Str, x = .str z ∧ y = .str z) ∨ ∃ (p q : Addr) (xs ys : List V), x = .ref p ∧ y = .ref q ∧ ((H p = some (.lst xs) ∧ H q = some (.lst ys)) ∨ (H p = some (.tup xs) ∧ H q = some (.tup ys))) ∧
      xs.length = ys.length ∧ ys.length ≤ 1000 ∧ ∀ (i : Nat) (a b : V), xs[i]? = some a → ys[i]? = some b → SameV H n a b
def spSame (n : Nat) : Sp := fun vs H Q _ => ∃ x y : V, vs = [x, y] ∧ SameV H n x y ∧ Q (.bl true) H
theorem len_same {n : Nat} {vs : List V} {H : Hp} {Q : VK} {E : XK} (h : spSame n vs H Q E) : vs.length = 2 := by
  obtain ⟨_, _, rfl, _⟩ := h
  rfl
theorem same_step {n k : Nat} {f : Addr} {fd : FuncData} {f__law_is_int : Addr} {fd__law_is_int : FuncData} (F : Fun K "_law_same" "_law_same" s__law_same f fd) (T : Gs K mg t_DIGITS t_LETTERS a_MARKS a_SIGNS a_BadName a_BadText a_ElseputError)
    (c__law_is_int : Cal P w K mg base CX0 1 "_law_is_int" f__law_is_int fd__law_is_int ["_law_thing"] (sp__law_is_int K)) (c__law_same : Cal P w K mg base CX0 k "_law_same" f fd ["_law_actual", "_law_due"] (spSame n)) (hk : 1 ≤ k) : FnOk P w K mg base CX0 (k + 1) f fd ["_law_actual", "_law_due"] (spSame (n + 1)) := by
  refine F.ok sc__law_same (fun vs H Q E h => len_same h) (fun cdv A outer s H vs Q E hr h => ?_)
  obtain ⟨x, y, rfl, h, q⟩ := h
  refine ⟨_, (pss_cons (ps_if (pt_c op_isM (v_ 1) pe_non) (pss_one (ps_ret (pe_c op_isM (v_ 0) pe_non))) pss_nil) (pss_cons (ps_if (pt_c op_isM (v_ 1) pe_bl) (pss_one (ps_ret (pe_c op_isM (v_ 0) pe_bl))) pss_nil) (pss_cons (ps_if (pt_c op_isM (v_ 1) pe_bl) (pss_one (ps_ret (pe_c op_isM (v_ 0) pe_bl))) pss_nil) (pss_cons (ps_if (pt_t K (pe_callB (isiK K) (by rfl) T.z_isinstance (by decide +kernel) (pa_cons (v_ 1) (pa_cons (pe_bltn (v := .ty "int") (u := .type "int") (by rfl) T.z_int (by decide +kernel) rfl) pa_nil)))) (pss_one (ps_ret (pe_andM (pe_call c__law_is_int.G (hr.mono (by first | decide | omega)) rfl c__law_is_int.m c__law_is_int.kp c__law_is_int.b .nil pass0 (pa_cons (v_ 0) pa_nil)) (pe_one (pe_c (eqK K hr.units) (v_ 0) (v_ 1)))))) pss_nil) (pss_cons (ps_if (pt_t K (pe_callB (isiK K) (by rfl) T.z_isinstance (by decide +kernel) (pa_cons (v_ 1) (pa_cons (pe_bltn (v := .ty "str") (u := .type "str") (by rfl) T.z_str (by decide +kernel) rfl) pa_nil)))) (pss_one (ps_ret (pe_andM (pe_callB (isiK K) (by rfl) T.z_isinstance (by decide +kernel) (pa_cons (v_ 0) (pa_cons (pe_bltn (v := .ty "str") (u := .type "str") (by rfl) T.z_str (by decide +kernel) rfl) pa_nil))) (pe_one (pe_c (eqK K hr.units) (v_ 0) (v_ 1)))))) pss_nil) (pss_cons (ps_if (pt_t K (pe_callB (isiK K) (by rfl) T.z_isinstance (by decide +kernel) (pa_cons (v_ 1) (pa_cons (pe_bltn (v := .ty "dict") (u := .type "dict") (by rfl) T.z_dict (by decide +kernel) rfl) pa_nil)))) (pss_cons ps_never (pss_cons ps_never (pss_one (ps_ret pe_bl)))) pss_nil) (pss_cons (ps_if (PW.pt (pw_and (pt_t K (pe_callB (isiK K) (by rfl) T.z_isinstance (by decide +kernel) (pa_cons (v_ 1) (pa_cons (pe_bltn (v := .ty "list") (u := .type "list") (by rfl) T.z_list (by decide +kernel) rfl) pa_nil)))) (pw_and1 (pt_not (pt_t K (pe_callB (isiK K) (by rfl) T.z_isinstance (by decide +kernel) (pa_cons (v_ 0) (pa_cons (pe_bltn (v := .ty "list") (u := .type "list") (by rfl) T.z_list (by decide +kernel) rfl) pa_nil)))))))) (pss_one (ps_ret pe_bl)) pss_nil) (pss_cons (ps_if (PW.pt (pw_and (pt_t K (pe_callB (isiK K) (by rfl) T.z_isinstance (by decide +kernel) (pa_cons (v_ 1) (pa_cons (pe_bltn (v := .ty "tuple") (u := .type "tuple") (by rfl) T.z_tuple (by decide +kernel) rfl) pa_nil)))) (pw_and1 (pt_not (pt_t K (pe_callB (isiK K) (by rfl) T.z_isinstance (by decide +kernel) (pa_cons (v_ 0) (pa_cons (pe_bltn (v := .ty "tuple") (u := .type "tuple") (by rfl) T.z_tuple (by decide +kernel) rfl) pa_nil)))))))) (pss_one (ps_ret pe_bl)) pss_nil) (pss_cons (ps_if (pt_c (neK K hr.units) (pe_callB (lenK K) (by rfl) T.z_len PySem.boot_len (pa_cons (v_ 0) pa_nil)) (pe_callB (lenK K) (by rfl) T.z_len PySem.boot_len (pa_cons (v_ 1) pa_nil))) (pss_one (ps_ret pe_bl)) pss_nil) (pss_cons (ps_for PassesOwn.never rfl (pi_range1 rfl T.z_range (pa_cons (pe_callB (lenK K) (by rfl) T.z_len PySem.boot_len (pa_cons (v_ 1) pa_nil)) pa_nil)) (pg_name (i := 2) sc__law_same.nd rfl (.inl rfl)) (pss_one (ps_if (pt_not (pt_t K (pe_call c__law_same.G (hr.mono (by first | decide | omega)) rfl c__law_same.m c__law_same.kp c__law_same.b .nil pass0 (pa_cons (e_x K (v_ 0) (v_ 2)) (pa_cons (e_x K (v_ 1) (v_ 2)) pa_nil))))) (pss_one (ps_ret pe_bl)) pss_nil))) (pss_one (ps_ret pe_bl)))))))))))), ?_⟩
  rcases h with ⟨i, rfl, rfl⟩ | ⟨z, rfl, rfl⟩ | ⟨a, b, xs, ys, rfl, rfl, hh, hl, h1, hs⟩
  · refine ⟨_, _, _, _, true, rfl, .ty _, .base (.int i), kit_ty (by decide +kernel), ?_⟩
    refine ⟨i, rfl, ?_⟩
    have e : decide (i = i) = true := decide_eq_true rfl
    rw [← e] at q
    exact q
  · refine ⟨_, _, _, _, false, rfl, .ty _, .base (.str z), kit_ty (by decide +kernel), ?_⟩
    refine ⟨_, _, _, _, true, rfl, .ty _, .base (.str z), kit_ty (by decide +kernel), ?_⟩
    refine ⟨_, _, _, _, true, rfl, .ty _, .base (.str z), kit_ty (by decide +kernel), ?_⟩
    have e : decide (z = z) = true := decide_eq_true rfl
    rw [← e] at q
    exact q
  · rcases hh with ⟨ha, hb⟩ | ⟨ha, hb⟩
    · have tb : TyX K H (.ref b) (.type "list") := .base (.lst hb)
      refine ⟨_, _, _, _, false, rfl, .ty _, tb, kit_ty (by decide +kernel), ?_⟩
      refine ⟨_, _, _, _, false, rfl, .ty _, tb, kit_ty (by decide +kernel), ?_⟩
      refine ⟨_, _, _, _, false, rfl, .ty _, tb, kit_ty (by decide +kernel), ?_⟩
      refine ⟨_, _, _, _, true, rfl, .ty _, tb, kit_ty (by decide +kernel), ?_⟩
      refine ⟨_, _, _, _, true, rfl, .ty _, .base (.lst ha), kit_ty (by decide +kernel), ?_⟩
      refine ⟨_, _, _, _, false, rfl, .ty _, tb, kit_ty (by decide +kernel), ?_⟩
      refine .inl ⟨_, .inl (SqL.of ha), .inl ⟨_, .inl (SqL.of hb), ?_⟩⟩
      refine ite2 (fun e => ?_) (fun _ => ?_)
      · exact absurd e (by rw [hl]; simp)
      refine .inl ⟨_, .inl (SqL.of hb), _, rfl, by omega, by omega, ?_⟩
      refine for_range (lo := 0) (n := ys.length) (fun i σ' H' => H' = H ∧ ∃ y, σ' = [some (.ref a), some (.ref b), y, none]) ⟨rfl, _, rfl⟩ ?_ ?_
      · rintro i σ' H' hi ⟨rfl, y, rfl⟩
        have ex := List.getElem?_eq_getElem (l := xs) (i := i) (by omega)
        have ey := List.getElem?_eq_getElem (l := ys) hi
        refine ⟨_, .inl (SqL.of ha), xs[i], ?_, _, .inl (SqL.of hb), ys[i], ?_, _, _, rfl, hs i _ _ ex ey, ?_⟩
        · rw [show (0 : Int) + i = ((i : Nat) : Int) by omega]
          exact atI_nat ex
        · rw [show (0 : Int) + i = ((i : Nat) : Int) by omega]
          exact atI_nat ey
        exact ⟨rfl, _, rfl⟩
      · rintro σ' H' ⟨rfl, y, rfl⟩
        exact q
    · have tb : TyX K H (.ref b) (.type "tuple") := .base (.tup hb)
      refine ⟨_, _, _, _, false, rfl, .ty _, tb, kit_ty (by decide +kernel), ?_⟩
      refine ⟨_, _, _, _, false, rfl, .ty _, tb, kit_ty (by decide +kernel), ?_⟩
      refine ⟨_, _, _, _, false, rfl, .ty _, tb, kit_ty (by decide +kernel), ?_⟩
      refine ⟨_, _, _, _, false, rfl, .ty _, tb, kit_ty (by decide +kernel), ?_⟩
      refine ⟨_, _, _, _, true, rfl, .ty _, tb, kit_ty (by decide +kernel), ?_⟩
      refine ⟨_, _, _, _, true, rfl, .ty _, .base (.tup ha), kit_ty (by decide +kernel), ?_⟩
      refine .inl ⟨_, .inr (SqT.of ha), .inl ⟨_, .inr (SqT.of hb), ?_⟩⟩
      refine ite2 (fun e => ?_) (fun _ => ?_)
      · exact absurd e (by rw [hl]; simp)
      refine .inl ⟨_, .inr (SqT.of hb), _, rfl, by omega, by omega, ?_⟩
      refine for_range (lo := 0) (n := ys.length) (fun i σ' H' => H' = H ∧ ∃ y, σ' = [some (.ref a), some (.ref b), y, none]) ⟨rfl, _, rfl⟩ ?_ ?_
      · rintro i σ' H' hi ⟨rfl, y, rfl⟩
        have ex := List.getElem?_eq_getElem (l := xs) (i := i) (by omega)
        have ey := List.getElem?_eq_getElem (l := ys) hi
        refine ⟨_, .inr (SqT.of ha), xs[i], ?_, _, .inr (SqT.of hb), ys[i], ?_, _, _, rfl, hs i _ _ ex ey, ?_⟩
        · rw [show (0 : Int) + i = ((i : Nat) : Int) by omega]
          exact atI_nat ex
        · rw [show (0 : Int) + i = ((i : Nat) : Int) by omega]
          exact atI_nat ey
        exact ⟨rfl, _, rfl⟩
      · rintro σ' H' ⟨rfl, y, rfl⟩
        exact q
theorem same_all {f : Addr} {fd : FuncData} {f__law_is_int : Addr} {fd__law_is_int : FuncData} (F : Fun K "_law_same" "_law_same" s__law_same f fd) (T : Gs K mg t_DIGITS t_LETTERS a_MARKS a_SIGNS a_BadName a_BadText a_ElseputError)
    (c__law_is_int : Cal P w K mg base CX0 1 "_law_is_int" f__law_is_int fd__law_is_int ["_law_thing"] (sp__law_is_int K)) (b : Binds K fd ["_law_actual", "_law_due"] []) (kp : PySem.W.keepIn K (.ref f) = true) (m : mg "_law_same" = some (.ref f)) :
    ∀ n : Nat, FnOk P w K mg base CX0 (n + 2) f fd ["_law_actual", "_law_due"] (spSame n)
  | 0 => ⟨fun _ _ _ _ h => len_same h, by
    intro A outer s H args us vs Q E _ _ _ _ h
    obtain ⟨_, _, _, h, _⟩ := h
    exact False.elim h⟩
  | n + 1 => same_step F T c__law_is_int ⟨same_all F T c__law_is_int b kp m n, b, kp, m⟩ (by omega)
def sp__law_same (K : PySem.W.Frag) : Sp := spSame 4
theorem ok__law_same {f : Addr} {fd : FuncData} {f__law_is_int : Addr} {fd__law_is_int : FuncData} (F : Fun K "_law_same" "_law_same" s__law_same f fd) (T : Gs K mg t_DIGITS t_LETTERS a_MARKS a_SIGNS a_BadName a_BadText a_ElseputError)
    (c__law_is_int : Cal P w K mg base CX0 1 "_law_is_int" f__law_is_int fd__law_is_int ["_law_thing"] (sp__law_is_int K)) (b : Binds K fd ["_law_actual", "_law_due"] []) (kp : PySem.W.keepIn K (.ref f) = true) (m : mg "_law_same" = some (.ref f)) :
    FnOk P w K mg base CX0 6 f fd ["_law_actual", "_law_due"] (sp__law_same K) := same_all F T c__law_is_int b kp m 4

/-! ### _law_split -/
def sp__law_split (K : PySem.W.Frag) : Sp := fun vs H Q _ => ∃ z : Str, vs = [.str z] ∧ z.length ≤ 20000 ∧ (match splitL z.cps.toList 1 with
  | .ok l => ∀ (H' : Hp) (t p : Addr) (ts : List Addr), Same H H' → H t = none → H p = none → p ≠ t → H' t = some (.tup [.str "let", .ref p]) → H' p = some (.lst (ts.map V.ref)) → PairL H' ts l → Q (.ref t) H'
  | .error c => ∀ (H' : Hp) (t : Addr), Same H H' → H t = none → H' t = some (.tup [.str "refused", .int 1, .int (c : Int)]) → Q (.ref t) H')
theorem len__law_split {vs : List V} {H : Hp} {Q : VK} {E : XK} (h : sp__law_split K vs H Q E) : vs.length = 1 := by
  obtain ⟨_, rfl, _⟩ := h
  rfl
theorem ok__law_split {f : Addr} {fd : FuncData} {f_tokens : Addr} {fd_tokens : FuncData} (F : Fun K "_law_split" "_law_split" s__law_split f fd) (T : Gs K mg t_DIGITS t_LETTERS a_MARKS a_SIGNS a_BadName a_BadText a_ElseputError) (c_tokens : Cal P w K mg base (L2.CX P w) 4 "tokens" f_tokens fd_tokens ["line"] (sp_tokens K)) : FnOk P w K mg base CX0 5 f fd ["_law_line"] (sp__law_split K) := by
  refine F.ok sc__law_split (fun vs H Q E h => len__law_split h) (fun cdv A outer s H vs Q E hr h => ?_)
  obtain ⟨z, rfl, hz, q⟩ := h
  refine ⟨_, (pss_cons (ps_try_as (i := 1) rfl rfl sc__law_split.nd rfl rfl ⟨rfl, by decide +kernel, .inl T.g_ElseputError⟩ takes0 (fun W pn xe tk po => (pss_one (ps_ret (pe_tup (pa_cons pe_str (pa_cons (pe_callS c_tokens.G (hr.mono (by first | decide | omega)) rfl c_tokens.m c_tokens.kp c_tokens.b (fun σ => passAt tk σ) (pa_cons (v_ 0) pa_nil)) pa_nil)))))) (fun ea oe ecls ed epn hz hf => (pss_one (ps_if (PW.pt (pw_and (pt_t K (pe_callB (call_isX hz hf) (by rfl) T.z_isinstance (by decide +kernel) (pa_cons (v_ 1) (pa_cons (pe_glob (v := .ref a_BadText) rfl T.g_BadText rfl) pa_nil)))) (pw_and (pt_t K (pe_callB (call_isX hz hf) (by rfl) T.z_isinstance (by decide +kernel) (pa_cons (v_ 1) (pa_cons (pe_bltn (v := .ty "ValueError") (u := .type "ValueError") (by rfl) T.z_ValueError (by decide +kernel) rfl) pa_nil)))) (pw_and1 (pt_not (pt_t K (pe_callB (call_isX hz hf) (by rfl) T.z_isinstance (by decide +kernel) (pa_cons (v_ 1) (pa_cons (pe_glob (v := .ref a_BadName) rfl T.g_BadName rfl) pa_nil))))))))) (pss_one (ps_ret (pe_tup (pa_cons pe_str (pa_cons (pe_xf T.x_BadText.xf (T.x_BadText.no _ (by decide)) hz hf (v_ 1)) (pa_cons (pe_xf T.x_BadText.xf (T.x_BadText.no _ (by decide)) hz hf (v_ 1)) pa_nil)))))) pss_nil)))) (pss_one (ps_ret (pe_tup (pa_cons pe_str pa_nil))))), ?_⟩
  refine ⟨z, rfl, hz, ?_⟩
  unfold Splits
  cases hsp : splitL z.cps.toList 1 with
  | ok l =>
    rw [hsp] at q
    intro H' p ts sm np hp hts
    refine ⟨(by show 2 ≤ sizeLine; decide), fun t nt => ?_⟩
    exact q _ t p ts (sm.trans (same_new nt)) (Same.free sm nt) np (ne_of_none hp nt) upd_same (same_new nt _ _ hp) (hts.same fun b o _ h => same_new nt b o h)
  | error c =>
    rw [hsp] at q
    intro C d H' hC sm nd hd
    cases hC.symm.trans T.n_BadText
    refine ⟨true, T.m_BadText_ElseputError, fun _ a na => ?_, fun h => nomatch h⟩
    refine ⟨_, d, _, _, _, true, rfl, rfl, rfl, hd, T.x_BadText.is, fun u h => h, T.k_BadText_BadText, ?_⟩
    refine ⟨_, d, _, _, _, true, rfl, rfl, rfl, hd, T.x_BadText.is, fun u h => h, T.k_BadText_ValueError, ?_⟩
    refine ⟨_, d, _, _, _, false, rfl, rfl, rfl, hd, T.x_BadText.is, fun u h => h, T.k_BadText_BadName, ?_⟩
    refine ⟨rfl, rfl, d, _, _, rfl, hd, rfl, rfl, rfl, d, _, _, rfl, hd, rfl, (by show 3 ≤ sizeLine; decide), fun t nt => ?_⟩
    exact q _ t (sm.trans (same_new nt)) (Same.free sm nt) upd_same
end
section
variable {P : Program} {w : World} {K : PySem.W.Frag} {mg : Str → Option Value} {base : Heap}
variable {t_DIGITS t_LETTERS : Tok} {a_MARKS a_SIGNS a_BadName a_BadText a_ElseputError : Addr}
/-! ### the law -/
theorem SameV.let' {H : Hp} {t t2 p p2 : Addr} {ts us : List Addr} {l : List (List Nat × Nat)} (h1 : H t = some (.tup [.str "let", .ref p])) (h2 : H t2 = some (.tup [.str "let", .ref p2])) (hp : H p = some (.lst (ts.map V.ref))) (hp2 : H p2 = some (.lst (us.map V.ref))) (hts : PairL H ts l) (hus : PairL H us l) (hl : l.length ≤ 1000) : SameV H 4 (.ref t) (.ref t2) := by
  have pair : ∀ {ts us : List Addr} {l : List (List Nat × Nat)}, PairL H ts l → PairL H us l → ∀ (i : Nat) (a b : V), (ts.map V.ref)[i]? = some a → (us.map V.ref)[i]? = some b → SameV H 2 a b := by
    intro ts
    induction ts with
    | nil => intro us l _ _ i a b h; simp at h
    | cons x ts ih =>
      intro us l h1 h2 i a b ha hb
      cases l with
      | nil => exact False.elim h1
      | cons y l =>
        cases us with
        | nil => simp at hb
        | cons u us =>
          obtain ⟨⟨z, e1, e2⟩, h1⟩ := h1
          obtain ⟨⟨z', e3, e4⟩, h2⟩ := h2
          cases i with
          | zero =>
            simp at ha hb
            subst ha hb
            have : z = z' := str_eq.mpr (e2.trans e4.symm)
            subst this
            refine .inr (.inr ⟨x, u, _, _, rfl, rfl, .inr ⟨e1, e3⟩, rfl, (by show 2 ≤ 1000; decide), fun i a b ha hb => ?_⟩)
            rw [ha] at hb
            cases hb
            match i, ha with
            | 0, ha => cases ha; exact .inr (.inl ⟨z, rfl, rfl⟩)
            | 1, ha => cases ha; exact .inl ⟨_, rfl, rfl⟩
            | i + 2, ha => cases ha
          | succ i => exact ih h1 h2 i a b (by simpa using ha) (by simpa using hb)
  refine .inr (.inr ⟨t, t2, _, _, rfl, rfl, .inr ⟨h1, h2⟩, rfl, (by show 2 ≤ 1000; decide), fun i a b ha hb => ?_⟩)
  match i, ha, hb with
  | 0, ha, hb => cases ha; cases hb; exact .inr (.inl ⟨_, rfl, rfl⟩)
  | 1, ha, hb =>
    cases ha
    cases hb
    exact .inr (.inr ⟨p, p2, _, _, rfl, rfl, .inl ⟨hp, hp2⟩, by rw [List.length_map, List.length_map, hts.len, hus.len], by rw [List.length_map, hus.len]; exact hl, pair hts hus⟩)
  | i + 2, ha, hb => cases ha
theorem SameV.refused {H : Hp} {t t2 : Addr} {c : Int} (h1 : H t = some (.tup [.str "refused", .int 1, .int c])) (h2 : H t2 = some (.tup [.str "refused", .int 1, .int c])) : SameV H 4 (.ref t) (.ref t2) := by
  refine .inr (.inr ⟨t, t2, _, _, rfl, rfl, .inr ⟨h1, h2⟩, rfl, (by show 3 ≤ 1000; decide), fun i a b ha hb => ?_⟩)
  rw [ha] at hb
  cases hb
  match i, ha with
  | 0, ha => cases ha; exact .inr (.inl ⟨_, rfl, rfl⟩)
  | 1, ha => cases ha; exact .inl ⟨_, rfl, rfl⟩
  | 2, ha => cases ha; exact .inl ⟨_, rfl, rfl⟩
  | i + 3, ha => cases ha
/-- texts of tokens -/
def TokS (z : Str) : Prop := Tok z.cps.toList ∧ z.length ≤ 40
theorem toks_of : ∀ {xs : List V}, (∀ x ∈ xs, TokV x) → ∃ zs : List Str, xs = zs.map V.str ∧ ∀ z ∈ zs, TokS z
  | [], _ => ⟨[], rfl, fun _ h => nomatch h⟩
  | x :: r, h => by
    obtain ⟨z, rfl, h1, h2⟩ := h x List.mem_cons_self
    obtain ⟨zs, rfl, h3⟩ := toks_of (xs := r) fun y hy => h y (List.mem_cons_of_mem _ hy)
    exact ⟨z :: zs, rfl, fun y hy => by
      rcases List.mem_cons.mp hy with rfl | hy
      · exact ⟨h1, h2⟩
      · exact h3 y hy⟩
theorem TokS.pos {z : Str} (h : TokS z) : 0 < z.length := by
  have := tok_ne h.1
  have h2 := len_cps z
  have := List.length_pos_iff.mpr this
  omega
def spLaw (K : PySem.W.Frag) : Sp := fun vs H Q _ => ∃ (a : Addr) (ns : List Int), vs = [.ref a] ∧ SqL K H a (ns.map V.int) ∧ ns.length ≤ 63 ∧ ∀ H', Q (.bl true) H'
abbrev sp_law := spLaw
theorem len_law {vs : List V} {H : Hp} {Q : VK} {E : XK} (h : sp_law K vs H Q E) : vs.length = 1 := by
  obtain ⟨_, _, rfl, _⟩ := h
  rfl
abbrev othersS : Str := "\"#$&'*+./?@ABCDEFGHIJKLMNOPQRSTUVWXYZ[\\]^_`{|}~"
theorem ok_law {f : Addr} {fd : FuncData} {f__law_state : Addr} {fd__law_state : FuncData} {f__law_mixed : Addr} {fd__law_mixed : FuncData} {f__law_laid : Addr} {fd__law_laid : FuncData} {f__law_same : Addr} {fd__law_same : FuncData} {f__law_piece : Addr} {fd__law_piece : FuncData} {f__law_split : Addr} {fd__law_split : FuncData} {f__law_pick : Addr} {fd__law_pick : FuncData} {f__law_draw : Addr} {fd__law_draw : FuncData} (F : Fun K "law" "law" s_law f fd) (T : Gs K mg t_DIGITS t_LETTERS a_MARKS a_SIGNS a_BadName a_BadText a_ElseputError) (c__law_state : Cal P w K mg base CX0 1 "_law_state" f__law_state fd__law_state ["_law_script"] (sp__law_state K)) (c__law_mixed : Cal P w K mg base CX0 2 "_law_mixed" f__law_mixed fd__law_mixed ["_law_state_here", "_law_row"] (sp__law_mixed K)) (c__law_laid : Cal P w K mg base CX0 2 "_law_laid" f__law_laid fd__law_laid ["_law_state_here", "_law_pieces"] (sp__law_laid K)) (c__law_same : Cal P w K mg base CX0 6 "_law_same" f__law_same fd__law_same ["_law_actual", "_law_due"] (sp__law_same K)) (c__law_piece : Cal P w K mg base CX0 3 "_law_piece" f__law_piece fd__law_piece ["_law_state_here"] (sp__law_piece K)) (c__law_split : Cal P w K mg base CX0 5 "_law_split" f__law_split fd__law_split ["_law_line"] (sp__law_split K)) (c__law_pick : Cal P w K mg base CX0 2 "_law_pick" f__law_pick fd__law_pick ["_law_state_here", "_law_row"] (sp__law_pick K)) (c__law_draw : Cal P w K mg base CX0 1 "_law_draw" f__law_draw fd__law_draw ["_law_state_here", "_law_many"] (sp__law_draw K)) : FnOk P w K mg base CX0 7 f fd ["_law_script"] (sp_law K) := by
  refine F.ok sc_law (fun vs H Q E h => len_law h) (fun cdv A outer s H vs Q E hr h => ?_)
  obtain ⟨a, ns, rfl, hS, hl, q⟩ := h
  refine ⟨_, (pss_cons (ps_set (i := 1) sc_law.nd rfl (.inr rfl) (pe_call c__law_state.G (hr.mono (by first | decide | omega)) rfl c__law_state.m c__law_state.kp c__law_state.b .nil pass0 (pa_cons (v_ 0) pa_nil))) (pss_cons (ps_set (i := 2) sc_law.nd rfl (.inl rfl) pe_str) (pss_cons (ps_set (i := 3) sc_law.nd rfl (.inr rfl) (pe_lc (own := [("_law_k", 5)]) (g := gName 5) (by rfl) sc_law.nd (pi_range1 rfl T.z_range (pa_cons (pe_op op_subM pe_int (pe_call c__law_draw.G (hr.mono (by first | decide | omega)) rfl c__law_draw.m c__law_draw.kp c__law_draw.b .nil pass0 (pa_cons (v_ 1) (pa_cons pe_int pa_nil)))) pa_nil)) (blkOk_by (N := ["_law_script", "_law_state_here", "_law_others", "_law_pieces", "_law_due", "_law_k", "_law_strange", "_law_line", "_law_columns", "_law_told", "_law_spot", "_law_spoiled", "_law_at"]) (sc := defScope s_law) (by decide +kernel)) (fun _ _ _ _ _ => pg_name (i := 5) sc_law.nd rfl (Or.inl rfl)) (fun _ _ _ _ _ => pts_nil) (fun _ _ _ _ _ => (pe_call c__law_piece.G (hr.mono (by first | decide | omega)) rfl c__law_piece.m c__law_piece.kp c__law_piece.b .nil pass0 (pa_cons (v_ 1) pa_nil))))) (pss_cons (ps_set (i := 3) sc_law.nd rfl (.inr rfl) (pe_call c__law_mixed.G (hr.mono (by first | decide | omega)) rfl c__law_mixed.m c__law_mixed.kp c__law_mixed.b .nil pass0 (pa_cons (v_ 1) (pa_cons (pe_op (addK K) (v_ 3) (pe_lst (pa_cons pe_str (pa_cons pe_str (pa_cons pe_str (pa_cons pe_str (pa_cons pe_str (pa_cons pe_str (pa_cons pe_str (pa_cons pe_str (pa_cons pe_str (pa_cons pe_str (pa_cons pe_str pa_nil))))))))))))) pa_nil)))) (pss_cons (ps_asg (pe_call c__law_laid.G (hr.mono (by first | decide | omega)) rfl c__law_laid.m c__law_laid.kp c__law_laid.b .nil pass0 (pa_cons (v_ 1) (pa_cons (v_ 3) pa_nil))) (pg_tup (by rfl) (pgs_cons (pg_name (i := 7) sc_law.nd rfl (.inl rfl)) (pgs_cons (pg_name (i := 8) sc_law.nd rfl (.inr rfl)) pgs_nil)))) (pss_cons (ps_setLc (i := 4) (own := [("_law_k", 5)]) (g := gName 5) (by rfl) sc_law.nd rfl rfl (sw_true rfl rfl rfl (by decide +kernel)) (pi_range1 rfl T.z_range (pa_cons (pe_callB (lenK K) (by rfl) T.z_len PySem.boot_len (pa_cons (v_ 3) pa_nil)) pa_nil)) (blkOk_by (N := ["_law_script", "_law_state_here", "_law_others", "_law_pieces", "_law_due", "_law_k", "_law_strange", "_law_line", "_law_columns", "_law_told", "_law_spot", "_law_spoiled", "_law_at"]) (sc := defScope s_law) (by decide +kernel)) (fun _ _ _ _ _ => pg_name (i := 5) sc_law.nd rfl (Or.inl rfl)) (fun _ _ _ _ _ => pts_nil) (fun _ _ _ _ _ => (pe_tup (pa_cons (e_x K (v_ 3) (v_ 5)) (pa_cons (e_x K (v_ 8) (v_ 5)) pa_nil))))) (pss_cons (ps_for PassesOwn.never rfl (pi_range1 rfl T.z_range (pa_cons pe_int pa_nil)) (pg_name (i := 5) sc_law.nd rfl (.inl rfl)) (pss_cons (ps_set (i := 9) sc_law.nd rfl (.inl rfl) (pe_call c__law_split.G (hr.mono (by first | decide | omega)) rfl c__law_split.m c__law_split.kp c__law_split.b .nil pass0 (pa_cons (v_ 7) pa_nil))) (pss_cons (ps_if (pt_not (pt_t K (pe_call c__law_same.G (hr.mono (by first | decide | omega)) rfl c__law_same.m c__law_same.kp c__law_same.b .nil pass0 (pa_cons (v_ 9) (pa_cons (pe_tup (pa_cons pe_str (pa_cons (v_ 4) pa_nil))) pa_nil))))) (pss_one (ps_ret pe_bl)) pss_nil) (pss_one (ps_expr (pe_bm PySem.F.plainAttrs_list PySem.F.slot_list_append PySem.F.type_list_append mt_append (e_x K (v_ 9) pe_int) (pa_cons (pe_tup (pa_cons pe_str (pa_cons pe_int pa_nil))) pa_nil))))))) (pss_cons (ps_for PassesOwn.never rfl (pi_list (pe_lst (pa_cons pe_str (pa_cons pe_str (pa_cons pe_str (pa_cons pe_str (pa_cons (pe_call c__law_pick.G (hr.mono (by first | decide | omega)) rfl c__law_pick.m c__law_pick.kp c__law_pick.b .nil pass0 (pa_cons (v_ 1) (pa_cons (v_ 2) pa_nil))) pa_nil))))))) (pg_name (i := 6) sc_law.nd rfl (.inl rfl)) (pss_cons (ps_set (i := 10) sc_law.nd rfl (.inl rfl) (pe_call c__law_draw.G (hr.mono (by first | decide | omega)) rfl c__law_draw.m c__law_draw.kp c__law_draw.b .nil pass0 (pa_cons (v_ 1) (pa_cons (pe_op (addK K) (pe_callB (lenK K) (by rfl) T.z_len PySem.boot_len (pa_cons (v_ 3) pa_nil)) pe_int) pa_nil)))) (pss_cons (ps_set (i := 11) sc_law.nd rfl (.inl rfl) (pe_op (addK K) (pe_op (addK K) (pe_slice (slK K) (v_ 3) po_none (po_some (v_ 10))) (pe_lst (pa_cons (v_ 6) pa_nil))) (pe_slice (slK K) (v_ 3) (po_some (v_ 10)) po_none))) (Evl.pss_cut (ps_if (pt_c (eqK K hr.units) (pe_call c__law_draw.G (hr.mono (by first | decide | omega)) rfl c__law_draw.m c__law_draw.kp c__law_draw.b .nil pass0 (pa_cons (v_ 1) (pa_cons pe_int pa_nil))) pe_int) (pss_cons (ps_set (i := 12) sc_law.nd rfl (.inl rfl) (pe_op (addK K) (pe_op (addK K) (v_ 10) pe_int) (pe_call c__law_draw.G (hr.mono (by first | decide | omega)) rfl c__law_draw.m c__law_draw.kp c__law_draw.b .nil pass0 (pa_cons (v_ 1) (pa_cons (pe_op op_subM (pe_op (addK K) (pe_callB (lenK K) (by rfl) T.z_len PySem.boot_len (pa_cons (v_ 3) pa_nil)) pe_int) (v_ 10)) pa_nil))))) (pss_one (ps_set (i := 11) sc_law.nd rfl (.inl rfl) (pe_op (addK K) (pe_op (addK K) (pe_slice (slK K) (v_ 11) po_none (po_some (v_ 12))) (pe_lst (pa_cons (pe_call c__law_pick.G (hr.mono (by first | decide | omega)) rfl c__law_pick.m c__law_pick.kp c__law_pick.b .nil pass0 (pa_cons (v_ 1) (pa_cons (v_ 2) pa_nil))) pa_nil))) (pe_slice (slK K) (v_ 11) (po_some (v_ 12)) po_none))))) pss_nil) (pss_cons (ps_asg (pe_call c__law_laid.G (hr.mono (by first | decide | omega)) rfl c__law_laid.m c__law_laid.kp c__law_laid.b .nil pass0 (pa_cons (v_ 1) (pa_cons (v_ 11) pa_nil))) (pg_tup (by rfl) (pgs_cons (pg_name (i := 7) sc_law.nd rfl (.inl rfl)) (pgs_cons (pg_name (i := 8) sc_law.nd rfl (.inr rfl)) pgs_nil)))) (pss_one (ps_if (pt_not (pt_t K (pe_call c__law_same.G (hr.mono (by first | decide | omega)) rfl c__law_same.m c__law_same.kp c__law_same.b .nil pass0 (pa_cons (pe_call c__law_split.G (hr.mono (by first | decide | omega)) rfl c__law_split.m c__law_split.kp c__law_split.b .nil pass0 (pa_cons (v_ 7) pa_nil)) (pa_cons (pe_tup (pa_cons pe_str (pa_cons pe_int (pa_cons (e_x K (v_ 8) (v_ 10)) pa_nil)))) pa_nil))))) (pss_one (ps_ret pe_bl)) pss_nil))))))) (pss_cons (ps_if (pt_not (pt_t K (pe_call c__law_same.G (hr.mono (by first | decide | omega)) rfl c__law_same.m c__law_same.kp c__law_same.b .nil pass0 (pa_cons (pe_call c__law_split.G (hr.mono (by first | decide | omega)) rfl c__law_split.m c__law_split.kp c__law_split.b .nil pass0 (pa_cons pe_str pa_nil)) (pa_cons (pe_tup (pa_cons pe_str (pa_cons (pe_lst pa_nil) pa_nil))) pa_nil))))) (pss_one (ps_ret pe_bl)) pss_nil) (pss_one (ps_ret (pe_call c__law_same.G (hr.mono (by first | decide | omega)) rfl c__law_same.m c__law_same.kp c__law_same.b .nil pass0 (pa_cons (pe_call c__law_split.G (hr.mono (by first | decide | omega)) rfl c__law_split.m c__law_split.kp c__law_split.b .nil pass0 (pa_cons (pe_op op_mulSM pe_str (pe_call c__law_draw.G (hr.mono (by first | decide | omega)) rfl c__law_draw.m c__law_draw.kp c__law_draw.b .nil pass0 (pa_cons (v_ 1) (pa_cons pe_int pa_nil)))) pa_nil)) (pa_cons (pe_tup (pa_cons pe_str (pa_cons (pe_lst pa_nil) pa_nil))) pa_nil)))))))))))))), ?_⟩
  refine ⟨a, ns, rfl, hS, hl, fun H1 st scr sm fs fc hd => ?_⟩
  refine ⟨st, scr, _, rfl, hd, by decide, many_small (by decide) (by decide), fun r l r0 r1 hd => ?_⟩
  generalize upd H1 st (.lst l) = H1 at hd ⊢
  refine ⟨_, rfl, by omega, by omega, fun D nD => ?_⟩
  refine lc_it walk_range (fun i H' => Bt st H1 H' ∧ DrAt H' st scr ∧ ∃ xs : List V, H' D = some (.lst xs) ∧ xs.length = i ∧ ∀ x ∈ xs, TokV x) ⟨.same (same_new nD), hd.new (same_new nD), [], upd_same, rfl, fun _ h => nomatch h⟩ (fun _ _ _ _ => True.intro) ?_ ?_
  · rintro i x H2 H3 hi ⟨bt, hd2, xs, hD, hx, ht⟩ ⟨rfl, rfl⟩
    refine ⟨rfl, ?_⟩
    refine ⟨st, scr, rfl, hd2, fun H4 x b4 hd4 hxt => ?_⟩
    have Ds : D ≠ st := hd.ne_new nD
    have Dc : D ≠ scr := hd.ne_scr nD
    refine ⟨xs, b4 _ _ Ds hD, line_lt (by omega), ?_, hd4.at Ds Dc, xs ++ [x], upd_same, by rw [List.length_append, hx]; rfl, fun y hy => ?_⟩
    · intro b o nb hb
      rw [upd_ne (ne_of_none hb nD)]
      exact b4 b o nb (bt b o nb hb)
    · rcases List.mem_append.mp hy with h | h
      · exact ht y h
      · rw [List.mem_singleton.mp h]; exact hxt
  rintro H2 ⟨bt, hd2, xs, hD, hx, ht⟩
  refine ⟨(by show 11 ≤ sizeLine; decide), fun p np => ?_⟩
  refine .inl ⟨_, _, same_new np _ _ hD, upd_same, line_of (by show xs.length + 11 ≤ _; omega), fun p2 np2 => ?_⟩
  have hd3 := (hd2.new (same_new (o := .lst sgV) np)).new (same_new (o := .lst (xs ++ sgV)) np2)
  refine ⟨st, scr, p2, _, rfl, hd3, upd_same, hd2.ne_new (free_new np2), by show (xs ++ sgV).length ≤ 1000; rw [List.length_append]; show xs.length + 11 ≤ 1000; omega, fun H4 pp ys b4 hd4 npp hpp hly hys => ?_⟩
  have hys2 : ∀ y ∈ ys, TokV y := fun y hy => by
    rcases List.mem_append.mp (hys y hy) with h | h
    · exact ht y h
    · exact sgV_tok y h
  have hly2 : ys.length ≤ 19 := by
    rw [hly]
    show (xs ++ sgV).length ≤ 19
    rw [List.length_append]
    show xs.length + 11 ≤ 19
    omega
  have hly3 : 11 ≤ ys.length := by
    rw [hly]
    show 11 ≤ (xs ++ sgV).length
    rw [List.length_append]
    show 11 ≤ xs.length + 11
    omega
  obtain ⟨zs, rfl, hzs⟩ := toks_of hys2
  rw [List.length_map] at hly2 hly3
  have ppst : pp ≠ st := hd3.ne_new npp
  refine ⟨st, scr, pp, zs, rfl, hd4, hpp, ppst, by omega, fun z hz => ⟨(hzs z hz).pos, (hzs z hz).2⟩, fun H5 t c line lead tail gs b5 hd5 nt nc ht hc hgs hap hline hll => ?_⟩
  refine ⟨t, _, rfl, SqT.of ht, rfl, _, _, rfl, _, _, rfl, rfl, ?_⟩
  have hpp5 := b5 _ _ ppst hpp
  refine .inl ⟨_, .inl (SqL.of hpp5), _, rfl, by rw [List.length_map]; omega, by rw [List.length_map]; omega, fun D2 nD2 => ?_⟩
  have hgl : gs.length = zs.length := by
    have := congrArg List.length hgs
    rwa [List.length_map, List.length_map] at this
  have hcl : (cols (1 + lead) gs).length = zs.length := by rw [cols_len, hgl]
  generalize hcs : cols (1 + lead) gs = cs at hc hcl
  obtain ⟨L, hL⟩ : ∃ L, L = (zs.map (·.cps.toList)).zip cs := ⟨_, rfl⟩
  have hLl : L.length = zs.length := by rw [hL, List.length_zip, List.length_map, hcl, Nat.min_self]
  refine lc_it walk_range (fun i H' => Same H5 H' ∧ ∃ us : List Addr, H' D2 = some (.lst (us.map V.ref)) ∧ PairL H' us (L.take i)) ⟨same_new nD2, [], upd_same, trivial⟩ (fun _ _ _ _ => True.intro) ?_ ?_
  · rintro i x H6 H7 hi ⟨sm6, us, hD2, hus⟩ ⟨rfl, rfl⟩
    rw [List.length_map] at hi
    have hi : i < zs.length := by omega
    obtain ⟨zi, ez⟩ : ∃ zi, zs[i]? = some zi := ⟨_, List.getElem?_eq_getElem hi⟩
    obtain ⟨ci, ec⟩ : ∃ ci, cs[i]? = some ci := ⟨_, List.getElem?_eq_getElem (by omega)⟩
    refine ⟨rfl, ?_⟩
    refine ⟨_, .inl (SqL.of (sm6 _ _ hpp5)), .str zi, ?_, _, .inl (SqL.of (sm6 _ _ hc)), colV ci, ?_, (by show 2 ≤ sizeLine; decide), fun t2 nt2 => ?_⟩
    · rw [show (0 : Int) + i = ((i : Nat) : Int) by omega]
      exact atI_nat (by rw [List.getElem?_map, ez]; rfl)
    · rw [show (0 : Int) + i = ((i : Nat) : Int) by omega]
      exact atI_nat (by rw [List.getElem?_map, ec]; rfl)
    have hul : us.length ≤ i := by
      rw [hus.len, List.length_take]
      omega
    have D2t : D2 ≠ t2 := ne_of_none hD2 nt2
    refine ⟨us.map V.ref, same_new nt2 _ _ hD2, line_lt (by rw [List.length_map]; omega), ?_, us ++ [t2], by rw [upd_same, List.map_append]; rfl, ?_⟩
    · intro b o hb
      rw [upd_ne (ne_of_none hb nD2)]
      exact same_new nt2 _ _ (sm6 _ _ hb)
    · have e : L.take (i + 1) = L.take i ++ [(zi.cps.toList, ci)] := take_snoc (by
        rw [hL, List.getElem?_zip_eq_some]
        exact ⟨by rw [List.getElem?_map, ez]; rfl, ec⟩)
      rw [e]
      refine PairL.snoc (by rw [upd_ne D2t.symm, upd_same]; rfl) (hus.same fun b o ho hb => ?_)
      obtain ⟨z', i', rfl⟩ := ho
      rw [upd_ne (ne_of hb hD2 (by intro e; cases e))]
      exact same_new nt2 _ _ hb
  rintro H6 ⟨sm6, us, hD2, hus⟩
  rw [List.length_map, show ((zs.length : Nat) : Int).toNat = zs.length by omega, ← hLl, List.take_length] at hus
  have hd6 := hd5.new sm6
  have b6 : ∀ {H'}, Same H6 H' → Same H5 H' := fun h => sm6.trans h
  have hsplit : splitL line.cps.toList 1 = .ok L := by
    rw [hline, splitL_spaces, split_lay hap fun x hx => ?_, hgs, hcs, hL]
    have : x.2 ∈ zs.map (·.cps.toList) := by rw [← hgs]; exact List.mem_map_of_mem hx
    obtain ⟨z, hz, e⟩ := List.mem_map.mp this
    rw [← e]
    exact (hzs z hz).1
  refine ⟨2, rfl, by decide, by decide, ?_⟩
  refine for_range (lo := 0) (n := 2) (fun i σ' H' => (∃ y w : Option V, σ' = [some (.ref a), some (.ref st), some (.str othersS), some (.ref pp), some (.ref D2), y, none, some (.str line), some (.ref c), w, none, none, none]) ∧ Same H6 H') ⟨⟨_, _, rfl⟩, Same.refl _⟩ ?_ ?_
  · rintro i σ' H' hi ⟨⟨y, w, rfl⟩, sm7⟩
    refine ⟨line, rfl, by omega, ?_⟩
    rw [hsplit]
    intro H8 t8 p8 ts8 sm8 nt8 np8 hne8 ht8 hp8 hts8
    have hD8 := sm8 _ _ (sm7 _ _ hD2)
    have hus8 := hus.same fun b o _ h => sm8 b o (sm7 b o h)
    refine ⟨(by show 2 ≤ sizeLine; decide), fun t9 nt9 => ?_⟩
    have s9 := same_new (o := .tup [.str "let", .ref D2]) nt9
    refine ⟨_, _, rfl, SameV.let' (s9 _ _ ht8) upd_same (s9 _ _ hp8) (s9 _ _ hD8) (hts8.same fun b o _ h => s9 b o h) (hus8.same fun b o _ h => s9 b o h) (by omega), ?_⟩
    refine ⟨_, .inr (SqT.of (s9 _ _ ht8)), .ref p8, rfl, .inl ⟨rfl, _, SqL.of (s9 _ _ hp8)⟩, (by show 2 ≤ sizeLine; decide), fun t10 nt10 => ?_⟩
    have l8 : ts8.length = L.length := hts8.len
    refine ⟨p8, _, _, rfl, rfl, same_new nt10 _ _ (s9 _ _ hp8), line_lt (by rw [List.length_map]; omega), ⟨_, _, rfl⟩, fun b o hb => ?_⟩
    have hb7 := sm7 _ _ hb
    rw [upd_ne (ne_of_none hb7 np8)]
    exact same_new nt10 _ _ (s9 _ _ (sm8 _ _ hb7))
  rintro σ' H7 ⟨⟨y, w, rfl⟩, sm7⟩
  have hd7 := hd6.new sm7
  have hpp7 := sm7 _ _ (sm6 _ _ hpp5)
  clear hus hD2
  refine ⟨st, scr, .str othersS, rfl, hd7, .inl ⟨othersS, rfl, by decide +kernel, by decide +kernel, fun co lo hco hd8 => ?_⟩⟩
  have b8 : Bt st H7 (upd H7 st (.lst lo)) := Bt.st
  have hpp8 := b8 _ _ ppst hpp7
  generalize upd H7 st (.lst lo) = H8 at hd8 hpp8 ⊢
  clear b8
  refine ⟨(by show 5 ≤ sizeLine; decide), fun R nR => ?_⟩
  have strange : ∀ s ∈ [61, 33, 45, 10, co], Strange s := by
    have h1 : ∀ s ∈ othersS.cps.toList, isL s = false ∧ isD s = false ∧ s ≠ 32 ∧ inSM [s] = false := by decide +kernel
    intro s hs
    simp only [List.mem_cons, List.not_mem_nil, or_false] at hs
    rcases hs with rfl | rfl | rfl | rfl | rfl
    · unfold Strange; decide
    · unfold Strange; decide
    · unfold Strange; decide
    · unfold Strange; decide
    · exact h1 _ hco
  have hR0 : (upd H8 R (.lst [.str "=", .str "!", .str "-", .str "\n", .str ⟨#[co]⟩])) R = some (.lst ([61, 33, 45, 10, co].map fun s => .str ⟨#[s]⟩)) := by
    rw [upd_same]
    rfl
  have hd9 := hd8.new (same_new (o := .lst [.str "=", .str "!", .str "-", .str "\n", .str ⟨#[co]⟩]) nR)
  have hpp9 := same_new (o := .lst [.str "=", .str "!", .str "-", .str "\n", .str ⟨#[co]⟩]) nR _ _ hpp8
  have Rst : R ≠ st := hd8.ne_new nR
  generalize upd H8 R (.lst [.str "=", .str "!", .str "-", .str "\n", .str ⟨#[co]⟩]) = H9 at hR0 hd9 hpp9 ⊢
  refine ⟨R, rfl, ⟨_, SqL.of hR0⟩, ?_⟩
  refine for_list (K := K) (a := R) (xs := [61, 33, 45, 10, co].map fun s => .str ⟨#[s]⟩) (fun i σ' H' => (∃ y5 y6 y7 y8 y9 y10 y11 y12 : Option V, σ' = [some (.ref a), some (.ref st), some (.str othersS), some (.ref pp), some (.ref D2), y5, y6, y7, y8, y9, y10, y11, y12]) ∧ Bt st H9 H' ∧ DrAt H' st scr) ⟨⟨_, _, _, _, _, _, _, _, rfl⟩, Bt.refl _ _, hd9⟩ (fun i σ' H' _ h => SqL.of (h.2.1 _ _ Rst hR0)) ?_ ?_
  · rintro i x σ' H' hi ⟨⟨y5, y6, y7, y8, y9, y10, y11, y12, rfl⟩, bt, hd⟩
    rw [List.getElem?_map] at hi
    obtain ⟨s, hs, rfl⟩ := Option.map_eq_some_iff.mp hi
    have hst := strange s (List.mem_of_getElem? hs)
    have hpp' := bt _ _ ppst hpp9
    refine .inl ⟨_, .inl (SqL.of hpp'), st, scr, _, rfl, hd, by omega, many_small (by omega) (by rw [List.length_map]; omega), fun r l r0 r1 hd2 => ?_⟩
    rw [List.length_map] at r1
    have bt2 : Bt st H9 (upd H' st (.lst l)) := bt.trans Bt.st
    have hpp2 : upd H' st (.lst l) pp = some (.lst (zs.map V.str)) := bt2 _ _ ppst hpp9
    generalize upd H' st (.lst l) = H10 at hd2 bt2 hpp2 ⊢
    have sl1 : (⟨#[s]⟩ : Str).length = 1 := rfl
    refine ⟨r, rfl, .inl ⟨_, SqL.of hpp2, fun q1 n1 => ?_⟩⟩
    rw [cutV_take _ r0, ← List.map_take]
    refine ⟨(by show 1 ≤ sizeLine; decide), fun q2 n2 => ?_⟩
    refine .inl ⟨_, _, same_new n2 _ _ upd_same, upd_same, line_of (by rw [List.length_map, List.length_take]; show _ + 1 ≤ _; omega), fun q3 n3 => ?_⟩
    have s3 := ((same_new (o := .lst ((zs.take r.toNat).map V.str)) n1).trans (same_new (o := .lst [.str ⟨#[s]⟩]) n2)).trans (same_new (o := .lst ((zs.take r.toNat).map V.str ++ [.str ⟨#[s]⟩])) n3)
    refine ⟨r, rfl, .inl ⟨_, SqL.of (s3 _ _ hpp2), fun q4 n4 => ?_⟩⟩
    rw [cutV_drop _ r0, ← List.map_drop]
    refine .inl ⟨_, _, same_new n4 _ _ upd_same, upd_same, line_of (by rw [List.length_append, List.length_map, List.length_map, List.length_take, List.length_drop]; show _ + 1 + _ ≤ _; omega), fun q5 n5 => ?_⟩
    have s5 := (s3.trans (same_new (o := .lst ((zs.drop r.toNat).map V.str)) n4)).trans (same_new (o := .lst (((zs.take r.toNat).map V.str ++ [.str ⟨#[s]⟩]) ++ (zs.drop r.toNat).map V.str)) n5)
    have h5 : (upd (upd (upd (upd (upd H10 q1 (.lst ((zs.take r.toNat).map V.str))) q2 (.lst [.str ⟨#[s]⟩])) q3 (.lst ((zs.take r.toNat).map V.str ++ [.str ⟨#[s]⟩]))) q4 (.lst ((zs.drop r.toNat).map V.str))) q5 (.lst (((zs.take r.toNat).map V.str ++ [.str ⟨#[s]⟩]) ++ (zs.drop r.toNat).map V.str))) q5 = some (.lst ((zs.take r.toNat ++ (⟨#[s]⟩ : Str) :: zs.drop r.toNat).map V.str)) := by
      rw [upd_same, List.map_append, List.map_cons, List.append_assoc]
      rfl
    have q5st : q5 ≠ st := hd2.ne_new (Same.free (s3.trans (same_new (o := .lst ((zs.drop r.toNat).map V.str)) n4)) n5)
    generalize upd (upd (upd (upd (upd H10 q1 (.lst ((zs.take r.toNat).map V.str))) q2 (.lst [.str ⟨#[s]⟩])) q3 (.lst ((zs.take r.toNat).map V.str ++ [.str ⟨#[s]⟩]))) q4 (.lst ((zs.drop r.toNat).map V.str))) q5 (.lst (((zs.take r.toNat).map V.str ++ [.str ⟨#[s]⟩]) ++ (zs.drop r.toNat).map V.str)) = H11 at s5 h5 ⊢
    have hd3 := hd2.new s5
    have bt3 := bt2.trans (Bt.same (st := st) s5)
    have hpp3 := s5 _ _ hpp2
    have hA : (zs.take r.toNat).length = r.toNat := by rw [List.length_take]; omega
    have hAt : ∀ z ∈ zs.take r.toNat, TokS z := fun z hz => hzs z (List.mem_of_mem_take hz)
    have hB : ∀ z ∈ zs.drop r.toNat, 0 < z.length ∧ z.length ≤ 40 := fun z hz => ⟨(hzs z (List.mem_of_mem_drop hz)).pos, (hzs z (List.mem_of_mem_drop hz)).2⟩
    have hAB : (zs.take r.toNat).length + (zs.drop r.toNat).length ≤ 19 := by rw [List.length_take, List.length_drop]; omega
    have hBl : (zs.drop r.toNat).length = zs.length - r.toNat := List.length_drop
    generalize zs.take r.toNat = A0 at h5 hA hAt hAB
    generalize zs.drop r.toNat = B0 at h5 hB hAB hBl
    refine ⟨fun σ' H' => ∃ (y12 : Option V) (S : Addr) (B : List Str), σ' = [some (.ref a), some (.ref st), some (.str othersS), some (.ref pp), some (.ref D2), y5, some (.str ⟨#[s]⟩), y7, y8, y9, some (.int r), some (.ref S), y12] ∧ Bt st H9 H' ∧ DrAt H' st scr ∧ S ≠ st ∧
      H' S = some (.lst ((A0 ++ (⟨#[s]⟩ : Str) :: B).map V.str)) ∧ (∀ z ∈ B, 0 < z.length ∧ z.length ≤ 40) ∧ A0.length + B.length ≤ 20, ?_, ?_⟩
    · refine ⟨st, scr, _, rfl, hd3, by decide, many_small (by decide) (by decide), fun r2 l2 _ _ hd4 => ?_⟩
      have bt4 := bt3.trans (Bt.st (st := st) (o := .lst l2))
      have hpp4 : upd H11 st (.lst l2) pp = some (.lst (zs.map V.str)) := bt4 _ _ ppst hpp9
      have h5' : upd H11 st (.lst l2) q5 = some (.lst ((A0 ++ (⟨#[s]⟩ : Str) :: B0).map V.str)) := by rw [upd_ne q5st]; exact h5
      generalize upd H11 st (.lst l2) = H12 at hd4 bt4 hpp4 h5' ⊢
      refine ite2 (fun e => ?_) (fun e => ?_)
      · refine .inl ⟨_, .inl (SqL.of hpp4), st, scr, _, rfl, hd4, by rw [List.length_map]; omega, many_small (by rw [List.length_map]; omega) (by rw [List.length_map]; omega), fun r3 l3 s0 s1 hd5 => ?_⟩
        rw [List.length_map] at s1
        have bt5 := bt4.trans (Bt.st (st := st) (o := .lst l3))
        have h6 : upd H12 st (.lst l3) q5 = some (.lst ((A0 ++ (⟨#[s]⟩ : Str) :: B0).map V.str)) := by rw [upd_ne q5st]; exact h5'
        generalize upd H12 st (.lst l3) = H13 at hd5 bt5 h6 ⊢
        have en : (r + 1 + r3).toNat = A0.length + (r3.toNat + 1) := by omega
        have hT : (A0 ++ (⟨#[s]⟩ : Str) :: B0).take (r + 1 + r3).toNat = A0 ++ (⟨#[s]⟩ : Str) :: B0.take r3.toNat := by
          rw [en, List.take_append, List.take_of_length_le (by omega), Nat.add_sub_cancel_left, List.take_succ_cons]
        have hDr : (A0 ++ (⟨#[s]⟩ : Str) :: B0).drop (r + 1 + r3).toNat = B0.drop r3.toNat := by
          rw [en, List.drop_append, List.drop_of_length_le (by omega), Nat.add_sub_cancel_left, List.drop_succ_cons, List.nil_append]
        refine ⟨r + 1 + r3, rfl, .inl ⟨_, SqL.of h6, fun u1 m1 => ?_⟩⟩
        rw [cutV_take _ (by omega), ← List.map_take, hT]
        have e1 := upd_same (H := H13) (a := u1) (o := .lst ((A0 ++ (⟨#[s]⟩ : Str) :: B0.take r3.toNat).map V.str))
        have t1 := same_new (o := .lst ((A0 ++ (⟨#[s]⟩ : Str) :: B0.take r3.toNat).map V.str)) m1
        have u1st := hd5.ne_new m1
        generalize upd H13 u1 (.lst ((A0 ++ (⟨#[s]⟩ : Str) :: B0.take r3.toNat).map V.str)) = H14 at e1 t1 ⊢
        refine ⟨st, scr, .str othersS, rfl, hd5.new t1, .inl ⟨othersS, rfl, by decide +kernel, by decide +kernel, fun c2 l4 hc2 hd6 => ?_⟩⟩
        have bt6 := (bt5.trans (Bt.same (st := st) t1)).trans (Bt.st (st := st) (o := .lst l4))
        have e2 : upd H14 st (.lst l4) u1 = some (.lst ((A0 ++ (⟨#[s]⟩ : Str) :: B0.take r3.toNat).map V.str)) := by rw [upd_ne u1st]; exact e1
        have h7 : upd H14 st (.lst l4) q5 = some (.lst ((A0 ++ (⟨#[s]⟩ : Str) :: B0).map V.str)) := by rw [upd_ne q5st]; exact t1 _ _ h6
        generalize upd H14 st (.lst l4) = H15 at hd6 bt6 e2 h7 ⊢
        refine ⟨(by show 1 ≤ sizeLine; decide), fun u2 m2 => ?_⟩
        have lT : ((A0 ++ (⟨#[s]⟩ : Str) :: B0.take r3.toNat).map V.str).length ≤ 30 := by
          rw [List.length_map, List.length_append, List.length_cons, List.length_take]
          omega
        refine .inl ⟨_, _, same_new m2 _ _ e2, upd_same, line_of (by show _ + 1 ≤ _; omega), fun u3 m3 => ?_⟩
        have t3 := (same_new (o := .lst [.str ⟨#[c2]⟩]) m2).trans (same_new (o := .lst ((A0 ++ (⟨#[s]⟩ : Str) :: B0.take r3.toNat).map V.str ++ [.str ⟨#[c2]⟩])) m3)
        refine ⟨r + 1 + r3, rfl, .inl ⟨_, SqL.of (t3 _ _ h7), fun u4 m4 => ?_⟩⟩
        rw [cutV_drop _ (by omega), ← List.map_drop, hDr]
        refine .inl ⟨_, _, same_new m4 _ _ upd_same, upd_same, line_of (by rw [List.length_append, List.length_map (as := B0.drop r3.toNat), List.length_drop]; show _ + 1 + _ ≤ _; omega), fun u5 m5 => ?_⟩
        have t5 := (t3.trans (same_new (o := .lst ((B0.drop r3.toNat).map V.str)) m4)).trans (same_new (o := .lst (((A0 ++ (⟨#[s]⟩ : Str) :: B0.take r3.toNat).map V.str ++ [.str ⟨#[c2]⟩]) ++ (B0.drop r3.toNat).map V.str)) m5)
        refine ⟨_, u5, B0.take r3.toNat ++ (⟨#[c2]⟩ : Str) :: B0.drop r3.toNat, rfl, bt6.trans (Bt.same (st := st) t5), hd6.new t5, hd6.ne_new (Same.free (t3.trans (same_new (o := .lst ((B0.drop r3.toNat).map V.str)) m4)) m5), ?_, fun z hz => ?_, ?_⟩
        · rw [upd_same]
          congr 2
          simp
        · rcases List.mem_append.mp hz with h | h
          · exact hB z (List.mem_of_mem_take h)
          · rcases List.mem_cons.mp h with rfl | h
            · exact ⟨by rw [one_len]; decide, by rw [one_len]; decide⟩
            · exact hB z (List.mem_of_mem_drop h)
        · rw [List.length_append, List.length_cons, List.length_take, List.length_drop]
          omega
      · exact ⟨_, q5, B0, rfl, bt4, hd4, q5st, h5', hB, by omega⟩
    · rintro σ' H' ⟨y12, S, B, rfl, bt4, hd4, Sst, hS', hB', hAB'⟩
      refine ⟨st, scr, S, _, rfl, hd4, hS', Sst, by rw [List.length_append, List.length_cons]; omega, fun z hz => ?_, fun H5' t' c' line' lead' tail' gs' b5' hd5' nt' nc' ht' hc' hgs' hap' hline' hll' => ?_⟩
      · rcases List.mem_append.mp hz with h | h
        · exact ⟨(hAt z h).pos, (hAt z h).2⟩
        · rcases List.mem_cons.mp h with rfl | h
          · exact ⟨by rw [one_len]; decide, by rw [one_len]; decide⟩
          · exact hB' z h
      refine ⟨t', _, rfl, SqT.of ht', rfl, _, _, rfl, _, _, rfl, rfl, ?_⟩
      have bt5 := bt4.trans b5'
      obtain ⟨e', he1, he2⟩ : ∃ e', splitL line'.cps.toList 1 = .error e' ∧ (cols (1 + lead') gs')[A0.length]? = some e' := by
        rw [List.map_append, List.map_cons] at hgs'
        obtain ⟨x1, x2, rfl, hx1, hx2⟩ := List.map_eq_append_iff.mp hgs'
        obtain ⟨⟨g, y⟩, x3, rfl, hy, hx3⟩ := List.map_eq_cons_iff.mp hx2
        have hy : y = [s] := hy
        subst hy
        have hlen : x1.length = A0.length := by
          have := congrArg List.length hx1
          rwa [List.length_map, List.length_map] at this
        have := split_bad (t := tail') (xs := x1) (ys := x3) (g := g) (s := s) (c := 1 + lead') hap' (fun x hx => ?_) hst
        · obtain ⟨e', h1, h2⟩ := this
          exact ⟨e', by rw [hline', splitL_spaces]; exact h1, by rw [← hlen]; exact h2⟩
        · have : x.2 ∈ A0.map (·.cps.toList) := by rw [← hx1]; exact List.mem_map_of_mem hx
          obtain ⟨z, hz, e⟩ := List.mem_map.mp this
          rw [← e]
          exact (hAt z hz).1
      refine ⟨line', rfl, by omega, ?_⟩
      rw [he1]
      intro H6' t6 sm6' nt6 ht6
      refine ⟨_, .inl (SqL.of (sm6' _ _ hc')), colV e', ?_, (by show 3 ≤ sizeLine; decide), fun t7 nt7 => ?_⟩
      · rw [show r = ((A0.length : Nat) : Int) by omega]
        exact atI_nat (by rw [List.getElem?_map, he2]; rfl)
      have s7 := same_new (o := .tup [.str "refused", .int 1, colV e']) nt7
      refine ⟨_, _, rfl, SameV.refused (c := (e' : Int)) (s7 _ _ ht6) upd_same, ?_⟩
      exact ⟨⟨_, _, _, _, _, _, _, _, rfl⟩, (bt5.trans (Bt.same sm6')).trans (Bt.same s7), (hd5'.new sm6').new s7⟩
  · rintro σ' H' ⟨⟨y5, y6, y7, y8, y9, y10, y11, y12, rfl⟩, bt, hd⟩
    have z32 : ∀ k : Nat, splitL (List.replicate k 32) 1 = .ok [] := fun k => by
      have := splitL_spaces k (r := []) (col := 1)
      rw [List.append_nil] at this
      rw [this]
      rfl
    have nilts : ∀ {H : Hp} {ts : List Addr}, PairL H ts [] → ts = [] := fun {H ts} h => by
      cases ts with
      | nil => rfl
      | cons a r => exact False.elim h
    refine ⟨"", rfl, by decide, ?_⟩
    rw [show splitL (Str.ofString "").cps.toList 1 = .ok [] from rfl]
    intro H1' t1 p1 ts1 sm1 nt1 np1 ne1 ht1 hp1 hts1
    cases nilts hts1
    refine ⟨Nat.zero_le _, fun v1 nv1 => ?_⟩
    refine ⟨(by show 2 ≤ sizeLine; decide), fun v2 nv2 => ?_⟩
    have s2 := (same_new (o := .lst []) nv1).trans (same_new (o := .tup [.str "let", .ref v1]) nv2)
    refine ⟨_, _, rfl, SameV.let' (ts := []) (us := []) (l := []) (s2 _ _ ht1) upd_same (s2 _ _ hp1) (same_new nv2 _ _ upd_same) trivial trivial (by decide), ?_⟩
    have hd2 := (hd.new sm1).new s2
    refine ⟨st, scr, _, rfl, hd2, by decide, many_small (by decide) (by decide), fun r l r0 r1 hd3 => ?_⟩
    refine ⟨by omega, by omega, by decide, ?_⟩
    have e32 : (repS " " r).cps.toList = List.replicate r.toNat 32 := repS1
    refine ⟨_, rfl, by rw [← len_cps, e32, List.length_replicate]; omega, ?_⟩
    rw [e32, z32]
    intro H2' t2 p2 ts2 sm2 nt2 np2 ne2 ht2 hp2 hts2
    cases nilts hts2
    refine ⟨Nat.zero_le _, fun v3 nv3 => ?_⟩
    refine ⟨(by show 2 ≤ sizeLine; decide), fun v4 nv4 => ?_⟩
    have s4 := (same_new (o := .lst []) nv3).trans (same_new (o := .tup [.str "let", .ref v3]) nv4)
    exact ⟨_, _, rfl, SameV.let' (ts := []) (us := []) (l := []) (s4 _ _ ht2) upd_same (s4 _ _ hp2) (same_new nv4 _ _ upd_same) trivial trivial (by decide), q _⟩
end
theorem all_mk {l : PySem.W.OpenLaw} {w : World} {K : PySem.W.Frag} {h : Heap} {mg : Str → Option Value} {fa : Addr} {t_DIGITS t_LETTERS : Tok} {a_MARKS a_SIGNS a_BadName a_BadText a_ElseputError : Addr} {f_run_end f_token_end f_split_line f_tokens f__law_state f__law_draw f__law_pick f__law_mixed f__law_is_int f__law_same f__law_reserved f__law_word f__law_piece f__law_touch f__law_laid f__law_split f_law : Addr} {od_run_end an_run_end : Option Addr} {sl_run_end : Array (Option Value)} {oc_run_end kV_run_end dc_run_end pm_run_end cd_run_end ct_run_end : Value} {od_token_end an_token_end : Option Addr} {sl_token_end : Array (Option Value)} {oc_token_end kV_token_end dc_token_end pm_token_end cd_token_end ct_token_end : Value} {od_split_line an_split_line : Option Addr} {sl_split_line : Array (Option Value)} {oc_split_line kV_split_line dc_split_line pm_split_line cd_split_line ct_split_line : Value} {od_tokens an_tokens : Option Addr} {sl_tokens : Array (Option Value)} {oc_tokens kV_tokens dc_tokens pm_tokens cd_tokens ct_tokens : Value} {od__law_state an__law_state : Option Addr} {sl__law_state : Array (Option Value)} {oc__law_state kV__law_state dc__law_state pm__law_state cd__law_state ct__law_state : Value} {od__law_draw an__law_draw : Option Addr} {sl__law_draw : Array (Option Value)} {oc__law_draw kV__law_draw dc__law_draw pm__law_draw cd__law_draw ct__law_draw : Value} {od__law_pick an__law_pick : Option Addr} {sl__law_pick : Array (Option Value)} {oc__law_pick kV__law_pick dc__law_pick pm__law_pick cd__law_pick ct__law_pick : Value} {od__law_mixed an__law_mixed : Option Addr} {sl__law_mixed : Array (Option Value)} {oc__law_mixed kV__law_mixed dc__law_mixed pm__law_mixed cd__law_mixed ct__law_mixed : Value} {od__law_is_int an__law_is_int : Option Addr} {sl__law_is_int : Array (Option Value)} {oc__law_is_int kV__law_is_int dc__law_is_int pm__law_is_int cd__law_is_int ct__law_is_int : Value} {od__law_same an__law_same : Option Addr} {sl__law_same : Array (Option Value)} {oc__law_same kV__law_same dc__law_same pm__law_same cd__law_same ct__law_same : Value} {od__law_reserved an__law_reserved : Option Addr} {sl__law_reserved : Array (Option Value)} {oc__law_reserved kV__law_reserved dc__law_reserved pm__law_reserved cd__law_reserved ct__law_reserved : Value} {od__law_word an__law_word : Option Addr} {sl__law_word : Array (Option Value)} {oc__law_word kV__law_word dc__law_word pm__law_word cd__law_word ct__law_word : Value} {od__law_piece an__law_piece : Option Addr} {sl__law_piece : Array (Option Value)} {oc__law_piece kV__law_piece dc__law_piece pm__law_piece cd__law_piece ct__law_piece : Value} {od__law_touch an__law_touch : Option Addr} {sl__law_touch : Array (Option Value)} {oc__law_touch kV__law_touch dc__law_touch pm__law_touch cd__law_touch ct__law_touch : Value} {od__law_laid an__law_laid : Option Addr} {sl__law_laid : Array (Option Value)} {oc__law_laid kV__law_laid dc__law_laid pm__law_laid cd__law_laid ct__law_laid : Value} {od__law_split an__law_split : Option Addr} {sl__law_split : Array (Option Value)} {oc__law_split kV__law_split dc__law_split pm__law_split cd__law_split ct__law_split : Value} {od_law an_law : Option Addr} {sl_law : Array (Option Value)} {oc_law kV_law dc_law pm_law cd_law ct_law : Value} {od_MARKS : Option Addr} {its_MARKS : Array Value} {n_MARKS : Nat} {sl_MARKS : Array (Option Value)} {od_SIGNS : Option Addr} {its_SIGNS : Array Value} {n_SIGNS : Nat} {sl_SIGNS : Array (Option Value)} {f_BadName N_BadName cc_BadName cda_BadName : Addr} {nm_BadName q_BadName : Str} {bs_BadName bm_BadName : List Value} {sn_BadName : List Str} {sub_BadName : List Value} {ab_BadName : Bool} {col_BadName : Option Bool} {dd_BadName : Option Addr} {e0_BadName e1_BadName e2_BadName e3_BadName e5_BadName : Option Value} {oc_BadName doc_BadName pm_BadName ct_BadName ccl_BadName cl_BadName : Value} {od_BadName cdd_BadName cld_BadName : Option Addr} {osl_BadName ccs_BadName csl_BadName : Array (Option Value)} {vs_BadName : Array Value} {file_BadName : Str} {tf_BadName : Tok} {cdD_BadName : ClassData} {f_BadText N_BadText cc_BadText cda_BadText : Addr} {nm_BadText q_BadText : Str} {bs_BadText bm_BadText : List Value} {sn_BadText : List Str} {sub_BadText : List Value} {ab_BadText : Bool} {col_BadText : Option Bool} {dd_BadText : Option Addr} {e0_BadText e1_BadText e2_BadText e3_BadText e5_BadText : Option Value} {oc_BadText doc_BadText pm_BadText ct_BadText ccl_BadText cl_BadText : Value} {od_BadText cdd_BadText cld_BadText : Option Addr} {osl_BadText ccs_BadText csl_BadText : Array (Option Value)} {vs_BadText : Array Value} {file_BadText : Str} {tf_BadText : Tok} {cdD_BadText : ClassData} (X : K.In h) (G : h.Ns mainGlobals mg) (hfa : mg "law" = some (.ref fa))
    (a_run_end : PySem.W.nsIn K mainGlobals "run_end" = some (some (.ref f_run_end)))
    (l_run_end : K.lookup f_run_end = some ⟨oc_run_end, od_run_end, .func (PySem.W.fnOf "run_end" "run_end" (defArgs s_run_end) (defBody s_run_end) (defScope s_run_end) .none kV_run_end dc_run_end pm_run_end an_run_end cd_run_end ct_run_end), sl_run_end⟩)
    (c_run_end : PySem.W.codeIn K cd_run_end "run_end" = true)
    (k_run_end : PySem.W.keepIn K (.ref f_run_end) = true)
    (a_token_end : PySem.W.nsIn K mainGlobals "token_end" = some (some (.ref f_token_end)))
    (l_token_end : K.lookup f_token_end = some ⟨oc_token_end, od_token_end, .func (PySem.W.fnOf "token_end" "token_end" (defArgs s_token_end) (defBody s_token_end) (defScope s_token_end) .none kV_token_end dc_token_end pm_token_end an_token_end cd_token_end ct_token_end), sl_token_end⟩)
    (c_token_end : PySem.W.codeIn K cd_token_end "token_end" = true)
    (k_token_end : PySem.W.keepIn K (.ref f_token_end) = true)
    (a_split_line : PySem.W.nsIn K mainGlobals "split_line" = some (some (.ref f_split_line)))
    (l_split_line : K.lookup f_split_line = some ⟨oc_split_line, od_split_line, .func (PySem.W.fnOf "split_line" "split_line" (defArgs s_split_line) (defBody s_split_line) (defScope s_split_line) .none kV_split_line dc_split_line pm_split_line an_split_line cd_split_line ct_split_line), sl_split_line⟩)
    (c_split_line : PySem.W.codeIn K cd_split_line "split_line" = true)
    (k_split_line : PySem.W.keepIn K (.ref f_split_line) = true)
    (a_tokens : PySem.W.nsIn K mainGlobals "tokens" = some (some (.ref f_tokens)))
    (l_tokens : K.lookup f_tokens = some ⟨oc_tokens, od_tokens, .func (PySem.W.fnOf "tokens" "tokens" (defArgs s_tokens) (defBody s_tokens) (defScope s_tokens) .none kV_tokens dc_tokens pm_tokens an_tokens cd_tokens ct_tokens), sl_tokens⟩)
    (c_tokens : PySem.W.codeIn K cd_tokens "tokens" = true)
    (k_tokens : PySem.W.keepIn K (.ref f_tokens) = true)
    (a__law_state : PySem.W.nsIn K mainGlobals "_law_state" = some (some (.ref f__law_state)))
    (l__law_state : K.lookup f__law_state = some ⟨oc__law_state, od__law_state, .func (PySem.W.fnOf "_law_state" "_law_state" (defArgs s__law_state) (defBody s__law_state) (defScope s__law_state) .none kV__law_state dc__law_state pm__law_state an__law_state cd__law_state ct__law_state), sl__law_state⟩)
    (c__law_state : PySem.W.codeIn K cd__law_state "_law_state" = true)
    (k__law_state : PySem.W.keepIn K (.ref f__law_state) = true)
    (a__law_draw : PySem.W.nsIn K mainGlobals "_law_draw" = some (some (.ref f__law_draw)))
    (l__law_draw : K.lookup f__law_draw = some ⟨oc__law_draw, od__law_draw, .func (PySem.W.fnOf "_law_draw" "_law_draw" (defArgs s__law_draw) (defBody s__law_draw) (defScope s__law_draw) .none kV__law_draw dc__law_draw pm__law_draw an__law_draw cd__law_draw ct__law_draw), sl__law_draw⟩)
    (c__law_draw : PySem.W.codeIn K cd__law_draw "_law_draw" = true)
    (k__law_draw : PySem.W.keepIn K (.ref f__law_draw) = true)
    (a__law_pick : PySem.W.nsIn K mainGlobals "_law_pick" = some (some (.ref f__law_pick)))
    (l__law_pick : K.lookup f__law_pick = some ⟨oc__law_pick, od__law_pick, .func (PySem.W.fnOf "_law_pick" "_law_pick" (defArgs s__law_pick) (defBody s__law_pick) (defScope s__law_pick) .none kV__law_pick dc__law_pick pm__law_pick an__law_pick cd__law_pick ct__law_pick), sl__law_pick⟩)
    (c__law_pick : PySem.W.codeIn K cd__law_pick "_law_pick" = true)
    (k__law_pick : PySem.W.keepIn K (.ref f__law_pick) = true)
    (a__law_mixed : PySem.W.nsIn K mainGlobals "_law_mixed" = some (some (.ref f__law_mixed)))
    (l__law_mixed : K.lookup f__law_mixed = some ⟨oc__law_mixed, od__law_mixed, .func (PySem.W.fnOf "_law_mixed" "_law_mixed" (defArgs s__law_mixed) (defBody s__law_mixed) (defScope s__law_mixed) .none kV__law_mixed dc__law_mixed pm__law_mixed an__law_mixed cd__law_mixed ct__law_mixed), sl__law_mixed⟩)
    (c__law_mixed : PySem.W.codeIn K cd__law_mixed "_law_mixed" = true)
    (k__law_mixed : PySem.W.keepIn K (.ref f__law_mixed) = true)
    (a__law_is_int : PySem.W.nsIn K mainGlobals "_law_is_int" = some (some (.ref f__law_is_int)))
    (l__law_is_int : K.lookup f__law_is_int = some ⟨oc__law_is_int, od__law_is_int, .func (PySem.W.fnOf "_law_is_int" "_law_is_int" (defArgs s__law_is_int) (defBody s__law_is_int) (defScope s__law_is_int) .none kV__law_is_int dc__law_is_int pm__law_is_int an__law_is_int cd__law_is_int ct__law_is_int), sl__law_is_int⟩)
    (c__law_is_int : PySem.W.codeIn K cd__law_is_int "_law_is_int" = true)
    (k__law_is_int : PySem.W.keepIn K (.ref f__law_is_int) = true)
    (a__law_same : PySem.W.nsIn K mainGlobals "_law_same" = some (some (.ref f__law_same)))
    (l__law_same : K.lookup f__law_same = some ⟨oc__law_same, od__law_same, .func (PySem.W.fnOf "_law_same" "_law_same" (defArgs s__law_same) (defBody s__law_same) (defScope s__law_same) .none kV__law_same dc__law_same pm__law_same an__law_same cd__law_same ct__law_same), sl__law_same⟩)
    (c__law_same : PySem.W.codeIn K cd__law_same "_law_same" = true)
    (k__law_same : PySem.W.keepIn K (.ref f__law_same) = true)
    (a__law_reserved : PySem.W.nsIn K mainGlobals "_law_reserved" = some (some (.ref f__law_reserved)))
    (l__law_reserved : K.lookup f__law_reserved = some ⟨oc__law_reserved, od__law_reserved, .func (PySem.W.fnOf "_law_reserved" "_law_reserved" (defArgs s__law_reserved) (defBody s__law_reserved) (defScope s__law_reserved) .none kV__law_reserved dc__law_reserved pm__law_reserved an__law_reserved cd__law_reserved ct__law_reserved), sl__law_reserved⟩)
    (c__law_reserved : PySem.W.codeIn K cd__law_reserved "_law_reserved" = true)
    (k__law_reserved : PySem.W.keepIn K (.ref f__law_reserved) = true)
    (a__law_word : PySem.W.nsIn K mainGlobals "_law_word" = some (some (.ref f__law_word)))
    (l__law_word : K.lookup f__law_word = some ⟨oc__law_word, od__law_word, .func (PySem.W.fnOf "_law_word" "_law_word" (defArgs s__law_word) (defBody s__law_word) (defScope s__law_word) .none kV__law_word dc__law_word pm__law_word an__law_word cd__law_word ct__law_word), sl__law_word⟩)
    (c__law_word : PySem.W.codeIn K cd__law_word "_law_word" = true)
    (k__law_word : PySem.W.keepIn K (.ref f__law_word) = true)
    (a__law_piece : PySem.W.nsIn K mainGlobals "_law_piece" = some (some (.ref f__law_piece)))
    (l__law_piece : K.lookup f__law_piece = some ⟨oc__law_piece, od__law_piece, .func (PySem.W.fnOf "_law_piece" "_law_piece" (defArgs s__law_piece) (defBody s__law_piece) (defScope s__law_piece) .none kV__law_piece dc__law_piece pm__law_piece an__law_piece cd__law_piece ct__law_piece), sl__law_piece⟩)
    (c__law_piece : PySem.W.codeIn K cd__law_piece "_law_piece" = true)
    (k__law_piece : PySem.W.keepIn K (.ref f__law_piece) = true)
    (a__law_touch : PySem.W.nsIn K mainGlobals "_law_touch" = some (some (.ref f__law_touch)))
    (l__law_touch : K.lookup f__law_touch = some ⟨oc__law_touch, od__law_touch, .func (PySem.W.fnOf "_law_touch" "_law_touch" (defArgs s__law_touch) (defBody s__law_touch) (defScope s__law_touch) .none kV__law_touch dc__law_touch pm__law_touch an__law_touch cd__law_touch ct__law_touch), sl__law_touch⟩)
    (c__law_touch : PySem.W.codeIn K cd__law_touch "_law_touch" = true)
    (k__law_touch : PySem.W.keepIn K (.ref f__law_touch) = true)
    (a__law_laid : PySem.W.nsIn K mainGlobals "_law_laid" = some (some (.ref f__law_laid)))
    (l__law_laid : K.lookup f__law_laid = some ⟨oc__law_laid, od__law_laid, .func (PySem.W.fnOf "_law_laid" "_law_laid" (defArgs s__law_laid) (defBody s__law_laid) (defScope s__law_laid) .none kV__law_laid dc__law_laid pm__law_laid an__law_laid cd__law_laid ct__law_laid), sl__law_laid⟩)
    (c__law_laid : PySem.W.codeIn K cd__law_laid "_law_laid" = true)
    (k__law_laid : PySem.W.keepIn K (.ref f__law_laid) = true)
    (a__law_split : PySem.W.nsIn K mainGlobals "_law_split" = some (some (.ref f__law_split)))
    (l__law_split : K.lookup f__law_split = some ⟨oc__law_split, od__law_split, .func (PySem.W.fnOf "_law_split" "_law_split" (defArgs s__law_split) (defBody s__law_split) (defScope s__law_split) .none kV__law_split dc__law_split pm__law_split an__law_split cd__law_split ct__law_split), sl__law_split⟩)
    (c__law_split : PySem.W.codeIn K cd__law_split "_law_split" = true)
    (k__law_split : PySem.W.keepIn K (.ref f__law_split) = true)
    (a_law : PySem.W.nsIn K mainGlobals "law" = some (some (.ref f_law)))
    (l_law : K.lookup f_law = some ⟨oc_law, od_law, .func (PySem.W.fnOf "law" "law" (defArgs s_law) (defBody s_law) (defScope s_law) .none kV_law dc_law pm_law an_law cd_law ct_law), sl_law⟩)
    (c_law : PySem.W.codeIn K cd_law "law" = true)
    (k_law : PySem.W.keepIn K (.ref f_law) = true)
    (z_ValueError : PySem.W.nsIn K mainGlobals "ValueError" = some none)
    (z_bool : PySem.W.nsIn K mainGlobals "bool" = some none)
    (z_dict : PySem.W.nsIn K mainGlobals "dict" = some none)
    (z_int : PySem.W.nsIn K mainGlobals "int" = some none)
    (z_isinstance : PySem.W.nsIn K mainGlobals "isinstance" = some none)
    (z_len : PySem.W.nsIn K mainGlobals "len" = some none)
    (z_list : PySem.W.nsIn K mainGlobals "list" = some none)
    (z_range : PySem.W.nsIn K mainGlobals "range" = some none)
    (z_str : PySem.W.nsIn K mainGlobals "str" = some none)
    (z_super : PySem.W.nsIn K mainGlobals "super" = some none)
    (z_tuple : PySem.W.nsIn K mainGlobals "tuple" = some none)
    (g_DIGITS : PySem.W.nsIn K mainGlobals "DIGITS" = some (some (.str "0123456789" t_DIGITS)))
    (g_LETTERS : PySem.W.nsIn K mainGlobals "LETTERS" = some (some (.str "abcdefghijklmnopqrstuvwxyz" t_LETTERS)))
    (g_MARKS : PySem.W.nsIn K mainGlobals "MARKS" = some (some (.ref a_MARKS)))
    (l_MARKS : K.lookup a_MARKS = some ⟨.type "tuple", od_MARKS, .seq its_MARKS n_MARKS, sl_MARKS⟩)
    (v_MARKS : Vals [(.str "("), (.str ")"), (.str ","), (.str ";"), (.str ":")] its_MARKS.toList)
    (g_SIGNS : PySem.W.nsIn K mainGlobals "SIGNS" = some (some (.ref a_SIGNS)))
    (l_SIGNS : K.lookup a_SIGNS = some ⟨.type "tuple", od_SIGNS, .seq its_SIGNS n_SIGNS, sl_SIGNS⟩)
    (v_SIGNS : Vals [(.str "<"), (.str "<="), (.str "=="), (.str "!="), (.str ">="), (.str ">")] its_SIGNS.toList)
    (g_BadName : PySem.W.nsIn K mainGlobals "BadName" = some (some (.ref a_BadName)))
    (g_BadText : PySem.W.nsIn K mainGlobals "BadText" = some (some (.ref a_BadText)))
    (g_ElseputError : PySem.W.nsIn K mainGlobals "ElseputError" = some (some (.ref a_ElseputError)))
    (st_any : PySem.W.nsIn K PySem.cStatics "thirdparty.any" = some none)
    (htop : (l.prog.main.scope.names.lookup ("super" : Str)).isSome = false)
    (xc_BadName : K.lookup a_BadName = some (excClassObj nm_BadName q_BadName a_BadName N_BadName bs_BadName bm_BadName true sn_BadName sub_BadName ab_BadName col_BadName dd_BadName e0_BadName e1_BadName e2_BadName e3_BadName e5_BadName "ValueError.__new__"))
    (ref_BadName : PySem.HandSPX.refsVE bm_BadName = true)
    (sa_BadName : PySem.W.findIn K (.ref a_BadName) "__setattr__" = some (some (.builtin "object.__setattr__")))
    (eb_BadName : PySem.W.subIn K (.ref a_BadName) (.type "BaseException") = some true)
    (ty_BadName : PySem.W.typeIn K (.ref a_BadName) = some (.type "type"))
    (kC_BadName : PySem.W.keepIn K (.ref a_BadName) = true)
    (iC_BadName : PySem.W.findIn K (.ref a_BadName) "__init__" = some (some (.ref f_BadName)))
    (tI_BadName : PySem.W.typeIn K (.ref f_BadName) = some (.type "function"))
    (sup_BadName : PySem.W.ks_superIn K a_BadName a_BadName "__init__" = some (some (.builtin "ValueError.__init__")))
    (sv_BadName : PySem.W.subIn K (.ref a_BadName) (.type "ValueError") = some true)
    (mro_BadName : PySem.W.mroIn K a_BadName (.ref a_BadName) = some true)
    (no0_BadName : PySem.W.findIn K (.ref a_BadName) "name" = some none)
    (ga_BadName : PySem.W.findIn K (.ref a_BadName) "__getattribute__" = some (some (.builtin "BaseException.__getattribute__")))
    (gg_BadName : PySem.W.findIn K (.ref a_BadName) "__getattr__" = some none)
    (hd_BadName : PySem.W.hasDictIn K a_BadName = true)
    (hcl_BadName : PySem.W.findIn K (.ref a_BadName) "__class__" = some (some (.builtin "object.__class__")))
    (hn_BadName : PySem.W.specialIn K (.builtin "object.__class__") "__get__" = some (some (.builtin "getset_descriptor.__get__")))
    (ht_BadName : PySem.W.takesIn K (.builtin "object.__class__") = some true)
    (hm_BadName : PySem.W.mroIn K a_BadName (.type "object") = some true)
    (lf_BadName : K.lookup f_BadName = some ⟨oc_BadName, od_BadName, .func (PySem.W.fnX "__init__" "BadName.__init__" (defArgs s_BadName) (defBody s_BadName) (defScope s_BadName) [("__class__", cc_BadName)] .none .none doc_BadName pm_BadName none (.ref cda_BadName) ct_BadName), osl_BadName⟩)
    (cd_BadName : PySem.W.codeIn K (.ref cda_BadName) "BadName.__init__" = true)
    (lc_BadName : K.lookup cda_BadName = some ⟨ccl_BadName, cdd_BadName, .fields vs_BadName, ccs_BadName⟩)
    (v2_BadName : vs_BadName[2]? = some (.str file_BadName tf_BadName))
    (fe_BadName : ((l.prog.main.file : Str) == file_BadName) = true)
    (lcc_BadName : K.lookup cc_BadName = some ⟨cl_BadName, cld_BadName, .cell (some (.ref a_BadName)), csl_BadName⟩)
    (hD_BadName : PySem.W.clsIn K a_BadName = some cdD_BadName)
    (xc_BadText : K.lookup a_BadText = some (excClassObj nm_BadText q_BadText a_BadText N_BadText bs_BadText bm_BadText true sn_BadText sub_BadText ab_BadText col_BadText dd_BadText e0_BadText e1_BadText e2_BadText e3_BadText e5_BadText "ValueError.__new__"))
    (ref_BadText : PySem.HandSPX.refsVE bm_BadText = true)
    (sa_BadText : PySem.W.findIn K (.ref a_BadText) "__setattr__" = some (some (.builtin "object.__setattr__")))
    (eb_BadText : PySem.W.subIn K (.ref a_BadText) (.type "BaseException") = some true)
    (ty_BadText : PySem.W.typeIn K (.ref a_BadText) = some (.type "type"))
    (kC_BadText : PySem.W.keepIn K (.ref a_BadText) = true)
    (iC_BadText : PySem.W.findIn K (.ref a_BadText) "__init__" = some (some (.ref f_BadText)))
    (tI_BadText : PySem.W.typeIn K (.ref f_BadText) = some (.type "function"))
    (sup_BadText : PySem.W.ks_superIn K a_BadText a_BadText "__init__" = some (some (.builtin "ValueError.__init__")))
    (sv_BadText : PySem.W.subIn K (.ref a_BadText) (.type "ValueError") = some true)
    (mro_BadText : PySem.W.mroIn K a_BadText (.ref a_BadText) = some true)
    (no0_BadText : PySem.W.findIn K (.ref a_BadText) "line" = some none)
    (no1_BadText : PySem.W.findIn K (.ref a_BadText) "column" = some none)
    (ga_BadText : PySem.W.findIn K (.ref a_BadText) "__getattribute__" = some (some (.builtin "BaseException.__getattribute__")))
    (gg_BadText : PySem.W.findIn K (.ref a_BadText) "__getattr__" = some none)
    (hd_BadText : PySem.W.hasDictIn K a_BadText = true)
    (hcl_BadText : PySem.W.findIn K (.ref a_BadText) "__class__" = some (some (.builtin "object.__class__")))
    (hn_BadText : PySem.W.specialIn K (.builtin "object.__class__") "__get__" = some (some (.builtin "getset_descriptor.__get__")))
    (ht_BadText : PySem.W.takesIn K (.builtin "object.__class__") = some true)
    (hm_BadText : PySem.W.mroIn K a_BadText (.type "object") = some true)
    (lf_BadText : K.lookup f_BadText = some ⟨oc_BadText, od_BadText, .func (PySem.W.fnX "__init__" "BadText.__init__" (defArgs s_BadText) (defBody s_BadText) (defScope s_BadText) [("__class__", cc_BadText)] .none .none doc_BadText pm_BadText none (.ref cda_BadText) ct_BadText), osl_BadText⟩)
    (cd_BadText : PySem.W.codeIn K (.ref cda_BadText) "BadText.__init__" = true)
    (lc_BadText : K.lookup cda_BadText = some ⟨ccl_BadText, cdd_BadText, .fields vs_BadText, ccs_BadText⟩)
    (v2_BadText : vs_BadText[2]? = some (.str file_BadText tf_BadText))
    (fe_BadText : ((l.prog.main.file : Str) == file_BadText) = true)
    (lcc_BadText : K.lookup cc_BadText = some ⟨cl_BadText, cld_BadText, .cell (some (.ref a_BadText)), csl_BadText⟩)
    (hD_BadText : PySem.W.clsIn K a_BadText = some cdD_BadText)
    (mb_ElseputError : PySem.W.subIn K (.ref a_ElseputError) (.type "BaseException") = some true)
    (md_ElseputError : PySem.W.hasDictIn K a_ElseputError = true)
    (mt_ElseputError : PySem.W.typeIn K (.ref a_ElseputError) = some (.type "type"))
    (ms_BadText_ElseputError : PySem.W.subIn K (.ref a_BadText) (.ref a_ElseputError) = some true)
    (kit_BadText_BadText : PySem.W.kitOne K (.ref a_BadText) (.ref a_BadText) = some true)
    (kit_BadText_ValueError : PySem.W.kitOne K (.ref a_BadText) (.type "ValueError") = some true)
    (kit_BadText_BadName : PySem.W.kitOne K (.ref a_BadText) (.ref a_BadName) = some false)
    : ∃ fd : FuncData, (∀ (s : Shared) (v : Value), BindsTo s fd ⟨[v], []⟩ [("_law_script", v)]) ∧ ∀ base : Heap, K.In base → base.Ns mainGlobals mg → FnOk l.prog w K mg base CX0 7 fa fd ["_law_script"] (spLaw K) := by
  have e := hfa.symm.trans (PySem.W.mg_of X G a_law)
  cases e
  have XK_BadName : ExK K a_BadName f_BadName ["name"] := exk_mk xc_BadName ref_BadName sa_BadName eb_BadName ty_BadName kC_BadName sup_BadName sv_BadName mro_BadName iC_BadName tI_BadName (fun f hf => by simp only [List.mem_cons, List.not_mem_nil, or_false] at hf; subst hf; exact no0_BadName) ga_BadName gg_BadName hd_BadName hcl_BadName hn_BadName ht_BadName hm_BadName
  have XK_BadText : ExK K a_BadText f_BadText ["line", "column"] := exk_mk xc_BadText ref_BadText sa_BadText eb_BadText ty_BadText kC_BadText sup_BadText sv_BadText mro_BadText iC_BadText tI_BadText (fun f hf => by simp only [List.mem_cons, List.not_mem_nil, or_false] at hf; rcases hf with rfl | rfl; exact no0_BadText; exact no1_BadText) ga_BadText gg_BadText hd_BadText hcl_BadText hn_BadText ht_BadText hm_BadText
  have T : Gs K mg t_DIGITS t_LETTERS a_MARKS a_SIGNS a_BadName a_BadText a_ElseputError := { z_ValueError := PySem.W.mg_none_of X G z_ValueError, z_bool := PySem.W.mg_none_of X G z_bool, z_dict := PySem.W.mg_none_of X G z_dict, z_int := PySem.W.mg_none_of X G z_int, z_isinstance := PySem.W.mg_none_of X G z_isinstance, z_len := PySem.W.mg_none_of X G z_len, z_list := PySem.W.mg_none_of X G z_list, z_range := PySem.W.mg_none_of X G z_range, z_str := PySem.W.mg_none_of X G z_str, z_super := PySem.W.mg_none_of X G z_super, z_tuple := PySem.W.mg_none_of X G z_tuple, g_DIGITS := PySem.W.mg_of X G g_DIGITS, g_LETTERS := PySem.W.mg_of X G g_LETTERS, g_MARKS := PySem.W.mg_of X G g_MARKS, g_SIGNS := PySem.W.mg_of X G g_SIGNS, g_BadName := PySem.W.mg_of X G g_BadName, g_BadText := PySem.W.mg_of X G g_BadText, g_ElseputError := PySem.W.mg_of X G g_ElseputError, q_MARKS := fun _ => .inr ⟨_, _, _, l_MARKS, rfl, rfl, (by have e : _ = its_MARKS.size := v_MARKS.length.trans Array.length_toList; rw [← e]; decide), v_MARKS⟩, q_SIGNS := fun _ => .inr ⟨_, _, _, l_SIGNS, rfl, rfl, (by have e : _ = its_SIGNS.size := v_SIGNS.length.trans Array.length_toList; rw [← e]; decide), v_SIGNS⟩, n_ElseputError := g_ElseputError, n_BadName := g_BadName, n_BadText := g_BadText, x_BadName := ⟨XK_BadName.no, XK_BadName.xf, XK_BadName.is⟩, x_BadText := ⟨XK_BadText.no, XK_BadText.xf, XK_BadText.is⟩, m_BadText_ElseputError := PySem.W.exm_ref mb_ElseputError md_ElseputError mt_ElseputError ms_BadText_ElseputError, k_BadText_BadText := kit_BadText_BadText, k_BadText_ValueError := kit_BadText_ValueError, k_BadText_BadName := kit_BadText_BadName }
  have F_run_end := fun_mk (st := s_run_end) l_run_end c_run_end k_run_end
  have b_run_end := F_run_end.binds (ps := ["line", "at", "characters"]) fun _ _ _ _ _ _ us hl => match us, hl with | [_, _, _], _ => rfl
  have F_token_end := fun_mk (st := s_token_end) l_token_end c_token_end k_token_end
  have b_token_end := F_token_end.binds (ps := ["line", "at"]) fun _ _ _ _ _ _ us hl => match us, hl with | [_, _], _ => rfl
  have F_split_line := fun_mk (st := s_split_line) l_split_line c_split_line k_split_line
  have b_split_line := F_split_line.binds (ps := ["line", "number"]) fun _ _ _ _ _ _ us hl => match us, hl with | [_, _], _ => rfl
  have F_tokens := fun_mk (st := s_tokens) l_tokens c_tokens k_tokens
  have b_tokens := F_tokens.binds (ps := ["line"]) fun _ _ _ _ _ _ us hl => match us, hl with | [_], _ => rfl
  have F__law_state := fun_mk (st := s__law_state) l__law_state c__law_state k__law_state
  have b__law_state := F__law_state.binds (ps := ["_law_script"]) fun _ _ _ _ _ _ us hl => match us, hl with | [_], _ => rfl
  have F__law_draw := fun_mk (st := s__law_draw) l__law_draw c__law_draw k__law_draw
  have b__law_draw := F__law_draw.binds (ps := ["_law_state_here", "_law_many"]) fun _ _ _ _ _ _ us hl => match us, hl with | [_, _], _ => rfl
  have F__law_pick := fun_mk (st := s__law_pick) l__law_pick c__law_pick k__law_pick
  have b__law_pick := F__law_pick.binds (ps := ["_law_state_here", "_law_row"]) fun _ _ _ _ _ _ us hl => match us, hl with | [_, _], _ => rfl
  have F__law_mixed := fun_mk (st := s__law_mixed) l__law_mixed c__law_mixed k__law_mixed
  have b__law_mixed := F__law_mixed.binds (ps := ["_law_state_here", "_law_row"]) fun _ _ _ _ _ _ us hl => match us, hl with | [_, _], _ => rfl
  have F__law_is_int := fun_mk (st := s__law_is_int) l__law_is_int c__law_is_int k__law_is_int
  have b__law_is_int := F__law_is_int.binds (ps := ["_law_thing"]) fun _ _ _ _ _ _ us hl => match us, hl with | [_], _ => rfl
  have F__law_same := fun_mk (st := s__law_same) l__law_same c__law_same k__law_same
  have b__law_same := F__law_same.binds (ps := ["_law_actual", "_law_due"]) fun _ _ _ _ _ _ us hl => match us, hl with | [_, _], _ => rfl
  have F__law_reserved := fun_mk (st := s__law_reserved) l__law_reserved c__law_reserved k__law_reserved
  have b__law_reserved := F__law_reserved.binds (ps := []) fun _ _ _ _ _ _ us hl => match us, hl with | [], _ => rfl
  have F__law_word := fun_mk (st := s__law_word) l__law_word c__law_word k__law_word
  have b__law_word := F__law_word.binds (ps := ["_law_state_here", "_law_size"]) fun _ _ _ _ _ _ us hl => match us, hl with | [_, _], _ => rfl
  have F__law_piece := fun_mk (st := s__law_piece) l__law_piece c__law_piece k__law_piece
  have b__law_piece := F__law_piece.binds (ps := ["_law_state_here"]) fun _ _ _ _ _ _ us hl => match us, hl with | [_], _ => rfl
  have F__law_touch := fun_mk (st := s__law_touch) l__law_touch c__law_touch k__law_touch
  have b__law_touch := F__law_touch.binds (ps := ["_law_one", "_law_two"]) fun _ _ _ _ _ _ us hl => match us, hl with | [_, _], _ => rfl
  have F__law_laid := fun_mk (st := s__law_laid) l__law_laid c__law_laid k__law_laid
  have b__law_laid := F__law_laid.binds (ps := ["_law_state_here", "_law_pieces"]) fun _ _ _ _ _ _ us hl => match us, hl with | [_, _], _ => rfl
  have F__law_split := fun_mk (st := s__law_split) l__law_split c__law_split k__law_split
  have b__law_split := F__law_split.binds (ps := ["_law_line"]) fun _ _ _ _ _ _ us hl => match us, hl with | [_], _ => rfl
  have F_law := fun_mk (st := s_law) l_law c_law k_law
  have b_law := F_law.binds (ps := ["_law_script"]) fun _ _ _ _ _ _ us hl => match us, hl with | [_], _ => rfl
  refine ⟨PySem.W.fnOf "law" "law" (defArgs s_law) (defBody s_law) (defScope s_law) .none kV_law dc_law pm_law an_law cd_law ct_law, fun s v => .of_eq rfl, fun base _ _ => ?_⟩
  have C_BadText : CalE l.prog w K mg base 1 "BadText" a_BadText f_BadText _ ["self", "line", "column"] okx_BadText fs_BadText ["line", "column"] := ⟨ok_BadText XK_BadText lf_BadText cd_BadText lc_BadText v2_BadText fe_BadText lcc_BadText hD_BadText (PySem.W.mg_none_of X G z_super) st_any htop, .all fun us hl => (match us, hl with | [_, _, _], _ => rfl), XK_BadText, PySem.W.mg_of X G g_BadText⟩
  have C_run_end : Cal l.prog w K mg base CX0 1 "run_end" f_run_end _ ["line", "at", "characters"] (sp_run_end K) := ⟨ok_run_end F_run_end T, b_run_end, k_run_end, PySem.W.mg_of X G a_run_end⟩
  have C_token_end : Cal l.prog w K mg base CX0 2 "token_end" f_token_end _ ["line", "at"] (sp_token_end K) := ⟨ok_token_end F_token_end T C_run_end, b_token_end, k_token_end, PySem.W.mg_of X G a_token_end⟩
  have C_split_line : Cal l.prog w K mg base (L2.CX l.prog w) 3 "split_line" f_split_line _ ["line", "number"] (sp_split_line K) := ⟨ok_split_line F_split_line T C_token_end C_BadText, b_split_line, k_split_line, PySem.W.mg_of X G a_split_line⟩
  have C_tokens : Cal l.prog w K mg base (L2.CX l.prog w) 4 "tokens" f_tokens _ ["line"] (sp_tokens K) := ⟨ok_tokens F_tokens T C_split_line, b_tokens, k_tokens, PySem.W.mg_of X G a_tokens⟩
  have C__law_state : Cal l.prog w K mg base CX0 1 "_law_state" f__law_state _ ["_law_script"] (sp__law_state K) := ⟨ok__law_state F__law_state T, b__law_state, k__law_state, PySem.W.mg_of X G a__law_state⟩
  have C__law_draw : Cal l.prog w K mg base CX0 1 "_law_draw" f__law_draw _ ["_law_state_here", "_law_many"] (sp__law_draw K) := ⟨ok__law_draw F__law_draw T, b__law_draw, k__law_draw, PySem.W.mg_of X G a__law_draw⟩
  have C__law_pick : Cal l.prog w K mg base CX0 2 "_law_pick" f__law_pick _ ["_law_state_here", "_law_row"] (sp__law_pick K) := ⟨ok__law_pick F__law_pick T C__law_draw, b__law_pick, k__law_pick, PySem.W.mg_of X G a__law_pick⟩
  have C__law_mixed : Cal l.prog w K mg base CX0 2 "_law_mixed" f__law_mixed _ ["_law_state_here", "_law_row"] (sp__law_mixed K) := ⟨ok__law_mixed F__law_mixed T C__law_draw, b__law_mixed, k__law_mixed, PySem.W.mg_of X G a__law_mixed⟩
  have C__law_is_int : Cal l.prog w K mg base CX0 1 "_law_is_int" f__law_is_int _ ["_law_thing"] (sp__law_is_int K) := ⟨ok__law_is_int F__law_is_int T, b__law_is_int, k__law_is_int, PySem.W.mg_of X G a__law_is_int⟩
  have C__law_same : Cal l.prog w K mg base CX0 6 "_law_same" f__law_same _ ["_law_actual", "_law_due"] (sp__law_same K) := ⟨ok__law_same F__law_same T C__law_is_int b__law_same k__law_same (PySem.W.mg_of X G a__law_same), b__law_same, k__law_same, PySem.W.mg_of X G a__law_same⟩
  have C__law_reserved : Cal l.prog w K mg base CX0 1 "_law_reserved" f__law_reserved _ [] (sp__law_reserved K) := ⟨ok__law_reserved F__law_reserved T, b__law_reserved, k__law_reserved, PySem.W.mg_of X G a__law_reserved⟩
  have C__law_word : Cal l.prog w K mg base CX0 2 "_law_word" f__law_word _ ["_law_state_here", "_law_size"] (sp__law_word K) := ⟨ok__law_word F__law_word T C__law_draw, b__law_word, k__law_word, PySem.W.mg_of X G a__law_word⟩
  have C__law_piece : Cal l.prog w K mg base CX0 3 "_law_piece" f__law_piece _ ["_law_state_here"] (sp__law_piece K) := ⟨ok__law_piece F__law_piece T C__law_draw C__law_word C__law_pick C__law_reserved, b__law_piece, k__law_piece, PySem.W.mg_of X G a__law_piece⟩
  have C__law_touch : Cal l.prog w K mg base CX0 1 "_law_touch" f__law_touch _ ["_law_one", "_law_two"] (sp__law_touch K) := ⟨ok__law_touch F__law_touch T, b__law_touch, k__law_touch, PySem.W.mg_of X G a__law_touch⟩
  have C__law_laid : Cal l.prog w K mg base CX0 2 "_law_laid" f__law_laid _ ["_law_state_here", "_law_pieces"] (sp__law_laid K) := ⟨ok__law_laid F__law_laid T C__law_draw C__law_touch, b__law_laid, k__law_laid, PySem.W.mg_of X G a__law_laid⟩
  have C__law_split : Cal l.prog w K mg base CX0 5 "_law_split" f__law_split _ ["_law_line"] (sp__law_split K) := ⟨ok__law_split F__law_split T C_tokens, b__law_split, k__law_split, PySem.W.mg_of X G a__law_split⟩
  exact ok_law F_law T C__law_state C__law_mixed C__law_laid C__law_same C__law_piece C__law_split C__law_pick C__law_draw
theorem walk {l : PySem.W.OpenLaw} {q : Program} {loose : List Str} {XP : (Str → Option Value) → Heap → Prop} {YP : World → Heap → Prop} {d : DefRec} {K : Params → PySem.W.Frag} (hn : l.most = some 63) (hdf : d.params.defaults = [])
    (hY : ∀ (w : World) (h : Heap), YP w h → (K w.params).In h)
    (F : ∀ (w : World) (mg : Str → Option Value) (fa : Addr) (h : Heap), (K w.params).In h → h.Ns mainGlobals mg → mg d.name = some (.ref fa) →
      ∃ fd : FuncData, (∀ (s : Shared) (u : Value), BindsTo s fd ⟨[u], []⟩ [("_law_script", u)]) ∧ ∀ base : Heap, (K w.params).In base → base.Ns mainGlobals mg → FnOk l.prog w (K w.params) mg base CX0 7 fa fd ["_law_script"] (spLaw (K w.params))) :
    PySem.W.WalkO q loose XP YP l.row.toRowW d [] (fun f vs => PySem.call f vs) :=
  L2.walk_of (n := 63) (k := 7) (x := "_law_script") (CX := fun _ => CX0) (sp := fun w => spLaw (K w.params)) hn (by decide) hdf ⟨rfl, by decide, by decide⟩ hY F (fun _ _ a ns hl _ hS => ⟨a, ns, rfl, hS, hl, fun _ => rfl⟩) fun _ _ _ _ _ z => z
end K01
open PySem PySem.W PyProof.Rows
set_option maxRecDepth 100000 in
set_option maxHeartbeats 0 in
theorem PySem.Challenge.cw_elseput_k01_tokens_of_a_line_holds : PySem.Challenge.rw_elseput_k01_tokens_of_a_line.Holds := by
  w_on; o_law; k_head; (case hw => w_witness2)
  k_fill
  refine K01.walk (l := PySem.Challenge.rw_elseput_k01_tokens_of_a_line) rfl rfl (fun w h Y => PySem.W.kIn_of Y) ?F
  case F =>
    intro w mg fa h KX G hmg
    refine' K01.all_mk KX G hmg ?a_run_end ?l_run_end ?c_run_end ?k_run_end ?a_token_end ?l_token_end ?c_token_end ?k_token_end ?a_split_line ?l_split_line ?c_split_line ?k_split_line ?a_tokens ?l_tokens ?c_tokens ?k_tokens ?a__law_state ?l__law_state ?c__law_state ?k__law_state ?a__law_draw ?l__law_draw ?c__law_draw ?k__law_draw ?a__law_pick ?l__law_pick ?c__law_pick ?k__law_pick ?a__law_mixed ?l__law_mixed ?c__law_mixed ?k__law_mixed ?a__law_is_int ?l__law_is_int ?c__law_is_int ?k__law_is_int ?a__law_same ?l__law_same ?c__law_same ?k__law_same ?a__law_reserved ?l__law_reserved ?c__law_reserved ?k__law_reserved ?a__law_word ?l__law_word ?c__law_word ?k__law_word ?a__law_piece ?l__law_piece ?c__law_piece ?k__law_piece ?a__law_touch ?l__law_touch ?c__law_touch ?k__law_touch ?a__law_laid ?l__law_laid ?c__law_laid ?k__law_laid ?a__law_split ?l__law_split ?c__law_split ?k__law_split ?a_law ?l_law ?c_law ?k_law ?z_ValueError ?z_bool ?z_dict ?z_int ?z_isinstance ?z_len ?z_list ?z_range ?z_str ?z_super ?z_tuple ?g_DIGITS ?g_LETTERS ?g_MARKS ?l_MARKS ?v_MARKS ?g_SIGNS ?l_SIGNS ?v_SIGNS ?g_BadName ?g_BadText ?g_ElseputError ?st_any ?htop ?xc_BadName ?ref_BadName ?sa_BadName ?eb_BadName ?ty_BadName ?kC_BadName ?iC_BadName ?tI_BadName ?sup_BadName ?sv_BadName ?mro_BadName ?no0_BadName ?ga_BadName ?gg_BadName ?hd_BadName ?hcl_BadName ?hn_BadName ?ht_BadName ?hm_BadName ?lf_BadName ?cd_BadName ?lc_BadName ?v2_BadName ?fe_BadName ?lcc_BadName ?hD_BadName ?xc_BadText ?ref_BadText ?sa_BadText ?eb_BadText ?ty_BadText ?kC_BadText ?iC_BadText ?tI_BadText ?sup_BadText ?sv_BadText ?mro_BadText ?no0_BadText ?no1_BadText ?ga_BadText ?gg_BadText ?hd_BadText ?hcl_BadText ?hn_BadText ?ht_BadText ?hm_BadText ?lf_BadText ?cd_BadText ?lc_BadText ?v2_BadText ?fe_BadText ?lcc_BadText ?hD_BadText ?mb_ElseputError ?md_ElseputError ?mt_ElseputError ?ms_BadText_ElseputError ?kit_BadText_BadText ?kit_BadText_ValueError ?kit_BadText_BadName
    (case a_run_end => k_is)
    (case l_run_end => k_is)
    (case c_run_end => k_is)
    (case k_run_end => k_is)
    (case a_token_end => k_is)
    (case l_token_end => k_is)
    (case c_token_end => k_is)
    (case k_token_end => k_is)
    (case a_split_line => k_is)
    (case l_split_line => k_is)
    (case c_split_line => k_is)
    (case k_split_line => k_is)
    (case a_tokens => k_is)
    (case l_tokens => k_is)
    (case c_tokens => k_is)
    (case k_tokens => k_is)
    (case a__law_state => k_is)
    (case l__law_state => k_is)
    (case c__law_state => k_is)
    (case k__law_state => k_is)
    (case a__law_draw => k_is)
    (case l__law_draw => k_is)
    (case c__law_draw => k_is)
    (case k__law_draw => k_is)
    (case a__law_pick => k_is)
    (case l__law_pick => k_is)
    (case c__law_pick => k_is)
    (case k__law_pick => k_is)
    (case a__law_mixed => k_is)
    (case l__law_mixed => k_is)
    (case c__law_mixed => k_is)
    (case k__law_mixed => k_is)
    (case a__law_is_int => k_is)
    (case l__law_is_int => k_is)
    (case c__law_is_int => k_is)
    (case k__law_is_int => k_is)
    (case a__law_same => k_is)
    (case l__law_same => k_is)
    (case c__law_same => k_is)
    (case k__law_same => k_is)
    (case a__law_reserved => k_is)
    (case l__law_reserved => k_is)
    (case c__law_reserved => k_is)
    (case k__law_reserved => k_is)
    (case a__law_word => k_is)
    (case l__law_word => k_is)
    (case c__law_word => k_is)
    (case k__law_word => k_is)
    (case a__law_piece => k_is)
    (case l__law_piece => k_is)
    (case c__law_piece => k_is)
    (case k__law_piece => k_is)
    (case a__law_touch => k_is)
    (case l__law_touch => k_is)
    (case c__law_touch => k_is)
    (case k__law_touch => k_is)
    (case a__law_laid => k_is)
    (case l__law_laid => k_is)
    (case c__law_laid => k_is)
    (case k__law_laid => k_is)
    (case a__law_split => k_is)
    (case l__law_split => k_is)
    (case c__law_split => k_is)
    (case k__law_split => k_is)
    (case a_law => k_is)
    (case l_law => k_is)
    (case c_law => k_is)
    (case k_law => k_is)
    (case z_ValueError => k_is)
    (case z_bool => k_is)
    (case z_dict => k_is)
    (case z_int => k_is)
    (case z_isinstance => k_is)
    (case z_len => k_is)
    (case z_list => k_is)
    (case z_range => k_is)
    (case z_str => k_is)
    (case z_super => k_is)
    (case z_tuple => k_is)
    (case g_DIGITS => k_is)
    (case g_LETTERS => k_is)
    (case g_MARKS => k_is)
    (case l_MARKS => k_is)
    (case v_MARKS => (repeat' first | exact .nil | refine .cons ⟨_, rfl⟩ ?_))
    (case g_SIGNS => k_is)
    (case l_SIGNS => k_is)
    (case v_SIGNS => (repeat' first | exact .nil | refine .cons ⟨_, rfl⟩ ?_))
    (case g_BadName => k_is)
    (case g_BadText => k_is)
    (case g_ElseputError => k_is)
    (case st_any => k_is)
    (case htop => first | rfl | decide +kernel | k_is)
    (case xc_BadName => k_is)
    (case ref_BadName => first | rfl | decide +kernel | k_is)
    (case sa_BadName => k_is)
    (case eb_BadName => k_is)
    (case ty_BadName => k_is)
    (case kC_BadName => k_is)
    (case iC_BadName => k_is)
    (case tI_BadName => k_is)
    (case sup_BadName => ks_is)
    (case sv_BadName => k_is)
    (case mro_BadName => k_is)
    (case no0_BadName => k_is)
    (case ga_BadName => k_is)
    (case gg_BadName => k_is)
    (case hd_BadName => k_is)
    (case hcl_BadName => k_is)
    (case hn_BadName => k_is)
    (case ht_BadName => k_is)
    (case hm_BadName => k_is)
    (case lf_BadName => k_is)
    (case cd_BadName => k_is)
    (case lc_BadName => k_is)
    (case v2_BadName => first | rfl | decide +kernel | k_is)
    (case fe_BadName => first | rfl | decide +kernel | k_is)
    (case lcc_BadName => k_is)
    (case hD_BadName => k_is)
    (case xc_BadText => k_is)
    (case ref_BadText => first | rfl | decide +kernel | k_is)
    (case sa_BadText => k_is)
    (case eb_BadText => k_is)
    (case ty_BadText => k_is)
    (case kC_BadText => k_is)
    (case iC_BadText => k_is)
    (case tI_BadText => k_is)
    (case sup_BadText => ks_is)
    (case sv_BadText => k_is)
    (case mro_BadText => k_is)
    (case no0_BadText => k_is)
    (case no1_BadText => k_is)
    (case ga_BadText => k_is)
    (case gg_BadText => k_is)
    (case hd_BadText => k_is)
    (case hcl_BadText => k_is)
    (case hn_BadText => k_is)
    (case ht_BadText => k_is)
    (case hm_BadText => k_is)
    (case lf_BadText => k_is)
    (case cd_BadText => k_is)
    (case lc_BadText => k_is)
    (case v2_BadText => first | rfl | decide +kernel | k_is)
    (case fe_BadText => first | rfl | decide +kernel | k_is)
    (case lcc_BadText => k_is)
    (case hD_BadText => k_is)
    (case mb_ElseputError => k_is)
    (case md_ElseputError => k_is)
    (case mt_ElseputError => k_is)
    (case ms_BadText_ElseputError => k_is)
    (case kit_BadText_BadText => kit_is)
    (case kit_BadText_ValueError => kit_is)
    (case kit_BadText_BadName => kit_is)
