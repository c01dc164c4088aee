import PyProof.Rows.All
import Wide.All
import OpenK.AllK
import Wide.FinOn
import HandS.ForMost
import HandS.Wide
import HandS.TupAny
import HandS.IsInst
import HandS.Flow
import HandS.Evl
import HandS.Walk
import HandS.ExcInit
import HandS.Nested
import HandS.FStr
import HandS.TryOnly
import HandS.TryMany
import HandS.ExcIs
import HandS.ExcField
import HandS.WordsExc
import HandS.RaiseMore
import KE.KExcSuper
import KE.KExcIs
import PyProof.StrOps2
import PyProof.Rows.ReprOcc
import PyProof.Rows.StrDigits
import PyProof.Rows.StrJoinMade
import HandS.ClsMeth
import HandS.Star
import HandS.Property
import HandS.New
import HandS.ExcOwn
import HandS.More
import HandS.Dict
import HandS.Small
import KE.KOpsOwn
import OpenK.KMeth
import PySem.Challenge.RW_elseput_k12_changes_in_chain
set_option Elab.async false
set_option linter.all false
set_option maxRecDepth 100000
/-! Own words over the hand layer: readings that compute on the values' shapes. -/
namespace El
open PySem PySem.Spec PyProof.Rows L2
section
variable {X : Cx}

theorem wk {e : Expr} {t t' : TE} (h : PE X e t) (i : ∀ σ H Q, t' σ H Q → t σ H Q) : PE X e t' :=
  ⟨fun pins s σ H Q I q => h.run pins s σ H Q I (i σ H Q q)⟩
theorem opwk {f : Value → Value → Sem Value} {r r' : R2} (h : OpR X f r) (i : ∀ x y H Q, r' x y H Q → r x y H Q) : OpR X f r' :=
  fun pins s σ H x y v u Q I rx ry q => h pins s σ H x y v u Q I rx ry (i x y H Q q)
theorem unwk {f : Value → Sem Value} {r r' : V → Hp → VK → Prop} (h : UnR X f r) (i : ∀ x H Q, r' x H Q → r x H Q) : UnR X f r' :=
  fun pins s σ H x v Q I rx q => h pins s σ H x v Q I rx (i x H Q q)
theorem cwk {f : Value} {r r' : List V → Hp → VK → Prop} (h : CallR X f r) (i : ∀ x H Q, r' x H Q → r x H Q) : CallR X f r' :=
  fun pins s σ H x v Q I rx q => h pins s σ H x v Q I rx (i x H Q q)
theorem ixwk {r r' : R2} (h : IxR X r) (i : ∀ x y H Q, r' x y H Q → r x y H Q) : IxR X r' :=
  fun a b pins s σ H x y v u Q I rx ry q => h a b pins s σ H x y v u Q I rx ry (i x y H Q q)
theorem slwk {r r' : V → Option Int → Option Int → Hp → VK → Prop} (h : SlR X r) (i : ∀ x a b H Q, r' x a b H Q → r x a b H Q) : SlR X r' :=
  fun pins s σ H x v vl vu lo hi sl Q I rx hs pl pu q => h pins s σ H x v vl vu lo hi sl Q I rx hs pl pu (i x lo hi H Q q)

/-! ### a name in its slot -/
def tV (i : Nat) : TE := fun σ H Q => match σ[i]? with | some (some v) => Q v H | _ => False
theorem v_ (i : Nat) {x : Str} {pos : Pos} (hN : X.N[i]? = some x := by rfl) (hv : Vis X.env.scope x := by first | exact Or.inl rfl | exact Or.inr (Or.inl rfl) | exact Or.inr (Or.inr rfl)) (hd : (x == ("__debug__" : Str)) = false := by decide)
    (hcd : (x == ("__classdict__" : Str)) = false := by decide) : PE X (.Name x pos) (tV i) :=
  wk (pv i hN hv hd hcd) fun σ H Q q => by
    unfold tV at q
    split at q
    · rename_i v e; exact ⟨v, e, q⟩
    · exact q.elim

/-! ### operators -/
def addM (K : PySem.W.Frag) : R2 := fun x y H Q => match x, y with
  | .int i, .int j => Q (.int (i + j)) H
  | .str i, .str j => i.length + j.length ≤ sizeLine ∧ Q (.str (i ++ j)) H
  | .ref a, .ref b => (∃ xs zs, H a = some (.lst xs) ∧ H b = some (.lst zs) ∧ xs.length + zs.length ≤ sizeLine ∧ ∀ p, H p = none → Q (.ref p) (upd H p (.lst (xs ++ zs)))) ∨ rCatT K (.ref a) (.ref b) H Q
  | _, _ => False
theorem op_addM : OpR X (binaryOp .Add) (addM X.K) := opwk (OpR.or op_add (OpR.or op_add_str (OpR.or op_cat op_catT))) fun x y H Q q => by
  unfold addM at q
  split at q
  · exact .inl ⟨_, _, rfl, rfl, q⟩
  · exact .inr (.inl ⟨_, _, rfl, rfl, q⟩)
  · rcases q with ⟨xs, zs, h1, h2, h3, h4⟩ | q
    · exact .inr (.inr (.inl ⟨_, _, xs, zs, rfl, rfl, h1, h2, h3, h4⟩))
    · exact .inr (.inr (.inr q))
  · exact q.elim
def subM : R2 := fun x y H Q => match x, y with
  | .int i, .int j => Q (.int (i - j)) H
  | _, _ => False
theorem op_subM : OpR X (binaryOp .Sub) subM := opwk op_sub fun x y H Q q => by
  unfold subM at q
  split at q
  · exact ⟨_, _, rfl, rfl, q⟩
  · exact q.elim
def mulM : R2 := fun x y H Q => match x, y with
  | .int i, .int j => (CMul i j ∨ CMulW i j) ∧ Q (.int (i * j)) H
  | .ref l, .int k => ∃ xs, H l = some (.lst xs) ∧ (-(2 ^ 63) ≤ k ∧ k < 2 ^ 63) ∧ xs.length * k.toNat ≤ sizeLine ∧ ∀ p, H p = none → Q (.ref p) (upd H p (.lst (List.replicate k.toNat xs).flatten))
  | _, _ => False
theorem op_mulM : OpR X (binaryOp .Mult) mulM := opwk (OpR.or op_mul (OpR.or op_mulW op_rep)) fun x y H Q q => by
  unfold mulM at q
  split at q
  · obtain ⟨h | h, q⟩ := q
    · exact .inl ⟨_, _, rfl, rfl, h, q⟩
    · exact .inr (.inl ⟨_, _, rfl, rfl, h, q⟩)
  · obtain ⟨xs, h1, h2, h3, h4⟩ := q
    exact .inr (.inr ⟨_, _, xs, rfl, rfl, h1, h2.1, h2.2, h3, h4⟩)
  · exact q.elim
def divM : R2 := fun x y H Q => match x, y with
  | .int i, .int j => (CDiv i j ∨ CDivW i j) ∧ Q (.int (i / j)) H
  | _, _ => False
theorem op_divM : OpR X (binaryOp .FloorDiv) divM := opwk (OpR.or op_fdiv op_fdivW) fun x y H Q q => by
  unfold divM at q
  split at q
  · obtain ⟨h | h, q⟩ := q
    · exact .inl ⟨_, _, rfl, rfl, h, q⟩
    · exact .inr ⟨_, _, rfl, rfl, h, q⟩
  · exact q.elim
def modM : R2 := fun x y H Q => match x, y with
  | .int i, .int j => 0 < j ∧ Q (.int (i % j)) H
  | _, _ => False
theorem op_modM : OpR X (binaryOp .Mod) modM := opwk op_mod fun x y H Q q => by
  unfold modM at q
  split at q
  · exact ⟨_, _, rfl, rfl, q.1, q.2⟩
  · exact q.elim
def powM : R2 := fun x y H Q => match x, y with
  | .int i, .int j => CPow i j ∧ Q (.int (i ^ j.toNat)) H
  | _, _ => False
theorem op_powM : OpR X (binaryOp .Pow) powM := opwk op_pow fun x y H Q q => by
  unfold powM at q
  split at q
  · exact ⟨_, _, rfl, rfl, q.1, q.2⟩
  · exact q.elim
def negM : V → Hp → VK → Prop := fun x H Q => match x with
  | .int i => Q (.int (-i)) H
  | _ => False
theorem un_negM : UnR X (unaryOp .USub) negM := unwk un_neg fun x H Q q => by
  unfold negM at q
  split at q
  · exact ⟨_, rfl, q⟩
  · exact q.elim

/-! ### comparisons -/
def cmpM (f : Int → Int → Bool) : R2 := fun x y H Q => match x, y with
  | .int i, .int j => Q (.bl (f i j)) H
  | _, _ => False
theorem cmpwk {f : Int → Int → Bool} {g : Value → Value → Sem Value} (h : OpR X g (rI0 fun i j => .bl (f i j))) : OpR X g (cmpM f) := opwk h fun x y H Q q => by
  unfold cmpM at q
  split at q
  · exact ⟨_, _, rfl, rfl, q⟩
  · exact q.elim
theorem op_ltM : OpR X (compareOp .Lt) (cmpM fun i j => decide (i < j)) := cmpwk op_lt
theorem op_leM : OpR X (compareOp .LtE) (cmpM fun i j => decide (i ≤ j)) := cmpwk op_le
theorem op_gtM : OpR X (compareOp .Gt) (cmpM fun i j => decide (j < i)) := cmpwk op_gt
theorem op_geM : OpR X (compareOp .GtE) (cmpM fun i j => decide (j ≤ i)) := cmpwk op_ge
/-- ==: of plain values by the values; else of data -/
def eqM (K : PySem.W.Frag) : R2 := fun x y H Q => match x, y with
  | .int i, .int j => Q (.bl (decide (i = j))) H
  | .str i, .str j => Q (.bl (decide (i = j))) H
  | .bl i, .bl j => Q (.bl (decide (i = j))) H
  | .non, .non => Q (.bl true) H
  | .non, .int _ => Q (.bl false) H
  | .int _, .non => Q (.bl false) H
  | .non, .str _ => Q (.bl false) H
  | .str _, .non => Q (.bl false) H
  | .non, .bl _ => Q (.bl false) H
  | .bl _, .non => Q (.bl false) H
  | .int _, .str _ => Q (.bl false) H
  | .str _, .int _ => Q (.bl false) H
  | .bl _, .str _ => Q (.bl false) H
  | .str _, .bl _ => Q (.bl false) H
  | x, y => rEqD K x y H Q
theorem op_eqM (hu : X.A.units + 64 < cLine) : OpR X (compareOp .Eq) (eqM X.K) := opwk (OpR.or op_eq (op_eqD hu)) fun x y H Q q => by
  unfold eqM at q
  split at q
  all_goals first
    | exact .inl ⟨rfl, by simpa using q⟩
    | exact .inr q
def neM (K : PySem.W.Frag) : R2 := fun x y H Q => match x, y with
  | .int i, .int j => Q (.bl (!decide (i = j))) H
  | .str i, .str j => Q (.bl (!decide (i = j))) H
  | .bl i, .bl j => Q (.bl (!decide (i = j))) H
  | .non, .non => Q (.bl false) H
  | .non, .int _ => Q (.bl true) H
  | .int _, .non => Q (.bl true) H
  | .non, .str _ => Q (.bl true) H
  | .str _, .non => Q (.bl true) H
  | .non, .bl _ => Q (.bl true) H
  | .bl _, .non => Q (.bl true) H
  | .int _, .str _ => Q (.bl true) H
  | .str _, .int _ => Q (.bl true) H
  | .bl _, .str _ => Q (.bl true) H
  | .str _, .bl _ => Q (.bl true) H
  | x, y => rNeD K x y H Q
theorem op_neM (hu : X.A.units + 64 < cLine) : OpR X (compareOp .NotEq) (neM X.K) := opwk (OpR.or op_ne (op_neD hu)) fun x y H Q q => by
  unfold neM at q
  split at q
  all_goals first
    | exact .inl ⟨rfl, by simpa using q⟩
    | exact .inr q
/-- is, is not: None, True, False -/
def isV (x y : V) : Bool := match x, y with
  | .non, .non => true
  | .bl a, .bl b => a == b
  | _, _ => false
def litV (y : V) : Bool := match y with | .non => true | .bl _ => true | _ => false
def isM : R2 := fun x y H Q => match litV y with | true => Q (.bl (isV x y)) H | false => False
def notM : R2 := fun x y H Q => match litV y with | true => Q (.bl (!isV x y)) H | false => False
theorem lit_cases {y : V} (h : litV y = true) : y = .non ∨ ∃ b, y = .bl b := by
  cases y with
  | non => exact .inl rfl
  | bl b => exact .inr ⟨b, rfl⟩
  | _ => exact absurd (show false = true from h) (by decide)
theorem is_other {A : Around} {E : Value → Shared → Prop} {M : Model} {x : V} {v : Value} {b : Bool} {s : Shared} {Q : Value → Shared → Prop} (rx : RelV x v) (h : Q (.bool (isV x (.bl b))) s) : wpAny M A (compareOp .Is v (.bool b)) Q E s := by
  cases x with
  | bl a =>
    cases rx
    by_cases e : a = b
    · subst e; exact wpAny_is_self rfl (by simpa [isV] using h)
    · exact wpAny_is_other rfl (fun z => e (Value.bool.inj z)) (by rw [show isV (.bl a) (.bl b) = false from beq_eq_false_iff_ne.mpr e] at h; exact h)
  | non => cases rx; exact wpAny_is_other rfl (by intro z; cases z) h
  | int i => obtain ⟨t, rfl⟩ := rx; exact wpAny_is_other rfl (by intro z; cases z) h
  | str i => obtain ⟨t, rfl⟩ := rx; exact wpAny_is_other rfl (by intro z; cases z) h
  | byt i => obtain ⟨t, rfl⟩ := rx; exact wpAny_is_other rfl (by intro z; cases z) h
  | flt i => obtain ⟨t, rfl⟩ := rx; exact wpAny_is_other rfl (by intro z; cases z) h
  | ref a => cases rx; exact wpAny_is_other rfl (by intro z; cases z) h
  | ty n => cases rx; exact wpAny_is_other rfl (by intro z; cases z) h
theorem isnot_other {A : Around} {E : Value → Shared → Prop} {M : Model} {x : V} {v : Value} {b : Bool} {s : Shared} {Q : Value → Shared → Prop} (rx : RelV x v) (h : Q (.bool (!isV x (.bl b))) s) : wpAny M A (compareOp .IsNot v (.bool b)) Q E s := by
  cases x with
  | bl a =>
    cases rx
    by_cases e : a = b
    · subst e; exact wpAny_isNot_self rfl (by simpa [isV] using h)
    · exact wpAny_isNot_other rfl (fun z => e (Value.bool.inj z)) (by rw [show isV (.bl a) (.bl b) = false from beq_eq_false_iff_ne.mpr e] at h; exact h)
  | non => cases rx; exact wpAny_isNot_other rfl (by intro z; cases z) h
  | int i => obtain ⟨t, rfl⟩ := rx; exact wpAny_isNot_other rfl (by intro z; cases z) h
  | str i => obtain ⟨t, rfl⟩ := rx; exact wpAny_isNot_other rfl (by intro z; cases z) h
  | byt i => obtain ⟨t, rfl⟩ := rx; exact wpAny_isNot_other rfl (by intro z; cases z) h
  | flt i => obtain ⟨t, rfl⟩ := rx; exact wpAny_isNot_other rfl (by intro z; cases z) h
  | ref a => cases rx; exact wpAny_isNot_other rfl (by intro z; cases z) h
  | ty n => cases rx; exact wpAny_isNot_other rfl (by intro z; cases z) h
theorem isV_non (x : V) : isV x .non = decide (x = .non) := by cases x <;> rfl
theorem op_isM : OpR X (compareOp .Is) isM := by
  intro pins s σ H x y v u Q I rx ry q
  unfold isM at q
  split at q
  · rename_i e
    rcases lit_cases e with rfl | ⟨b, rfl⟩
    · exact op_isN pins s σ H x .non v u Q I rx ry ⟨rfl, by rw [← isV_non]; exact q⟩
    · cases ry
      exact is_other rx ⟨.bl _, H, I, rfl, q⟩
  · exact q.elim
theorem op_isNotM : OpR X (compareOp .IsNot) notM := by
  intro pins s σ H x y v u Q I rx ry q
  unfold notM at q
  split at q
  · rename_i e
    rcases lit_cases e with rfl | ⟨b, rfl⟩
    · exact op_notN pins s σ H x .non v u Q I rx ry ⟨rfl, by rw [← isV_non]; exact q⟩
    · cases ry
      exact isnot_other rx ⟨.bl _, H, I, rfl, q⟩
  · exact q.elim
/-- in: a list or a tuple of plain things; a sign in a text -/
def inM (K : PySem.W.Frag) (neg : Bool) : R2 := fun x y H Q => match y with
  | .str z => ∃ c : Nat, x = .str ⟨#[c]⟩ ∧ Q (.bl (if neg then !decide (c ∈ z.cps.toList) else decide (c ∈ z.cps.toList))) H
  | .ref p => ∃ xs, (SqL K H p xs ∨ SqT K H p xs) ∧ flatV x = true ∧ xs.all flatV = true ∧ Q (.bl (if neg then !inV x xs else inV x xs)) H
  | _ => False
theorem op_inM : OpR X (compareOp .In) (inM X.K false) := opwk (OpR.or op_in_sign op_in_seq) fun x y H Q q => by
  unfold inM at q
  split at q
  · obtain ⟨c, e, q⟩ := q
    exact .inl ⟨c, _, e, rfl, q⟩
  · obtain ⟨xs, h1, h2, h3, q⟩ := q
    exact .inr ⟨_, xs, rfl, h1, h2, h3, q⟩
  · exact q.elim
theorem op_notInM : OpR X (compareOp .NotIn) (inM X.K true) := opwk (OpR.or op_notIn_sign op_notIn_seq) fun x y H Q q => by
  unfold inM at q
  split at q
  · obtain ⟨c, e, q⟩ := q
    exact .inl ⟨c, _, e, rfl, q⟩
  · obtain ⟨xs, h1, h2, h3, q⟩ := q
    exact .inr ⟨_, xs, rfl, h1, h2, h3, q⟩
  · exact q.elim

/-! ### tests -/
variable {a b : Expr} {rest : List Expr} {ta tb : TE} {pos : Pos}
def tTs (t : TE) : TT := fun σ H Q => t σ H fun x H' => match x with | .bl k => Q k H' | _ => False
theorem pt_c {op : CmpOp} {r : R2} (ho : OpR X (compareOp op) r) (ha : PE X a ta) (hb : PE X b tb) (hm : behindInMarks op b = false := by first | exact nomark _ | rfl) : PT X (.Compare a [op] [b] pos) (tTs (tOp r ta tb)) := by
  refine ⟨fun pins s σ H Q I h => ?_⟩
  refine wpAny_isTrue_Compare1 (thn (ha.run pins s σ H _ I h) fun v s1 ⟨x, H1, I1, r1, q1⟩ => thn (hb.run pins s1 σ H1 _ I1 q1) fun u s2 ⟨y, H2, I2, r2, q2⟩ =>
    thn (ho pins s2 σ H2 x y v u _ I2 r1 r2 q2) fun c s3 ⟨z, H3, I3, r3, q3⟩ => ?_) hm
  cases z with
  | bl k => cases r3; exact wpAny_truthy_bool ⟨H3, I3, q3⟩
  | _ => exact (show False from q3).elim
theorem pe_c {op : CmpOp} {r : R2} (ho : OpR X (compareOp op) r) (ha : PE X a ta) (hb : PE X b tb) (hm : behindInMarks op b = false := by first | exact nomark _ | rfl) : PE X (.Compare a [op] [b] pos) (tOp r ta tb) := pe_cmpR ho ha hb hm
/-- any value's truth -/
def tTr (K : PySem.W.Frag) (t : TE) : TT := fun σ H Q => t σ H fun x H' => match x with
  | .bl k => Q k H'
  | .non => Q false H'
  | .int i => Q (i != 0) H'
  | .str y => y.length ≤ sizeLine ∧ Q ((y.length : Int) != 0) H'
  | .ref p => (∃ xs, SqL K H' p xs ∧ Q (!xs.isEmpty) H') ∨ (∃ xs, SqT K H' p xs ∧ Q (!xs.isEmpty) H') ∨ ∃ kvs, H' p = some (.dK kvs) ∧ Q (!kvs.isEmpty) H'
  | _ => False
theorem pt_tr (ha : PE X a ta) (he : ∀ whole, isTrue a X.env whole = (do let v ← whole; standAt a.pos; holding [v] (truthy v)) := by intro _; rfl) : PT X a (tTr X.K ta) := by
  refine ⟨fun pins s σ H Q I h => ?_⟩
  refine isTrue_plain (thn (ha.run pins s σ H _ I h) fun v s1 ⟨x, H1, I1, r1, q1⟩ => tru_ok pins s1 σ H1 x v Q I1 r1 ?_) (he _)
  cases x with
  | bl k => exact ⟨k, rfl, q1⟩
  | non => exact ⟨false, rfl, q1⟩
  | int i => exact ⟨_, rfl, q1⟩
  | str y => exact ⟨_, ⟨q1.1, rfl⟩, q1.2⟩
  | ref p =>
    rcases (show (∃ xs, SqL X.K H1 p xs ∧ Q (!xs.isEmpty) H1) ∨ (∃ xs, SqT X.K H1 p xs ∧ Q (!xs.isEmpty) H1) ∨ ∃ kvs, H1 p = some (.dK kvs) ∧ Q (!kvs.isEmpty) H1 from q1) with ⟨xs, h, q⟩ | ⟨xs, h, q⟩ | ⟨xs, h, q⟩
    · exact ⟨_, .inl ⟨xs, h, rfl⟩, q⟩
    · exact ⟨_, .inr (.inl ⟨xs, h, rfl⟩), q⟩
    · exact ⟨_, .inr (.inr ⟨xs, h, rfl⟩), q⟩
  | _ => exact (show False from q1).elim
def tAndM (ta tb : TE) : TE := fun σ H Q => ta σ H fun x H1 => match x with | .bl c => (if c = true then tb σ H1 Q else Q (.bl false) H1) | _ => False
def tOrM (ta tb : TE) : TE := fun σ H Q => ta σ H fun x H1 => match x with | .bl c => (if c = true then Q (.bl true) H1 else tb σ H1 Q) | _ => False
def tNotM (ta : TE) : TE := fun σ H Q => ta σ H fun x H1 => match x with | .bl c => Q (.bl (!c)) H1 | _ => False
theorem pe_andM (ha : PE X a ta) (hb : PE X (.BoolOp .And (b :: rest) pos) tb) : PE X (.BoolOp .And (a :: b :: rest) pos) (tAndM ta tb) := by
  refine ⟨fun pins s σ H Q I h => ?_⟩
  refine BoolOp_and (thn (ha.run pins s σ H _ I h) fun v s1 ⟨x, H1, I1, r1, q1⟩ => ?_)
  cases x with
  | bl c =>
    cases r1
    refine wpAny_truthy_bool ?_
    cases c with
    | true => exact hb.run pins s1 σ H1 Q I1 q1
    | false => exact ⟨.bl false, H1, I1, rfl, q1⟩
  | _ => exact (show False from q1).elim
theorem pe_orM (ha : PE X a ta) (hb : PE X (.BoolOp .Or (b :: rest) pos) tb) : PE X (.BoolOp .Or (a :: b :: rest) pos) (tOrM ta tb) := by
  refine ⟨fun pins s σ H Q I h => ?_⟩
  refine BoolOp_or (thn (ha.run pins s σ H _ I h) fun v s1 ⟨x, H1, I1, r1, q1⟩ => ?_)
  cases x with
  | bl c =>
    cases r1
    refine wpAny_truthy_bool ?_
    cases c with
    | false => exact hb.run pins s1 σ H1 Q I1 q1
    | true => exact ⟨.bl true, H1, I1, rfl, q1⟩
  | _ => exact (show False from q1).elim
theorem pe_notM (ha : PE X a ta) : PE X (.UnaryOp .Not a pos) (tNotM ta) := by
  refine ⟨fun pins s σ H Q I h => ?_⟩
  refine UnaryOp_ (thn (ha.run pins s σ H _ I h) fun v s1 ⟨x, H1, I1, r1, q1⟩ => ?_)
  cases x with
  | bl c => cases r1; exact not_of (wpAny_truthy_bool ⟨.bl (!c), H1, I1, rfl, q1⟩)
  | _ => exact (show False from q1).elim

/-! ### subscripts, slices, calls of built-ins -/
def ixM (K : PySem.W.Frag) : R2 := fun x y H Q => match x, y with
  | .str z, .int i => z.length ≤ sizeLine ∧ ∃ c, atI z.cps.toList i = some c ∧ Q (.str ⟨#[c]⟩) H
  | .ref p, .int i => ∃ xs, (SqL K H p xs ∨ SqT K H p xs) ∧ ∃ v, atI xs i = some v ∧ Q v H
  | _, _ => False
theorem ix_M : IxR X (ixM X.K) := ixwk ix_seq fun x y H Q q => by
  unfold ixM at q
  split at q
  · obtain ⟨h, c, e, q⟩ := q
    exact .inr (.inr ⟨_, _, c, rfl, rfl, h, e, q⟩)
  · obtain ⟨xs, h | h, v, e, q⟩ := q
    · exact .inl ⟨_, xs, _, v, rfl, rfl, h, e, q⟩
    · exact .inr (.inl ⟨_, xs, _, v, rfl, rfl, h, e, q⟩)
  · exact q.elim
theorem e_ix (ha : PE X a ta) (hb : PE X b tb) (hs : PlainIx b := by intro _ _; rfl) : PE X (.Subscript a b pos) (tOp (ixM X.K) ta tb) := pe_ix ix_M ha hb hs
def slM (K : PySem.W.Frag) : V → Option Int → Option Int → Hp → VK → Prop := fun x lo hi H Q => match x with
  | .str z => z.length ≤ sizeLine ∧ Q (.str (cutS z lo hi)) H
  | .ref p => (∃ xs, SqL K H p xs ∧ ∀ q, H q = none → Q (.ref q) (upd H q (.lst (cutV xs lo hi)))) ∨ rSlT K (.ref p) lo hi H Q
  | _ => False
theorem sl_M : SlR X (slM X.K) := slwk (SlR.or sl_str (SlR.or sl_list sl_tup)) fun x lo hi H Q q => by
  unfold slM at q
  split at q
  · exact .inl ⟨_, rfl, q.1, q.2⟩
  · rcases q with ⟨xs, h, q⟩ | q
    · exact .inr (.inl ⟨_, xs, rfl, h, q⟩)
    · exact .inr (.inr q)
  · exact q.elim
def intM : List V → Hp → VK → Prop := fun xs H Q => match xs with
  | [.int i] => Q (.int i) H
  | [.bl k] => Q (.int (if k then 1 else 0)) H
  | [.str a] => ∃ n, PySem.intText? a = some n ∧ a.length ≤ 640 ∧ Q (.int n) H
  | _ => False
theorem call_intM : CallR X (.type "int") intM := cwk (CallR.or call_int1 call_int_str) fun xs H Q q => by
  unfold intM at q
  split at q
  · exact .inl (.inl ⟨_, rfl, q⟩)
  · exact .inl (.inr ⟨_, rfl, q⟩)
  · obtain ⟨n, h1, h2, q⟩ := q
    exact .inr ⟨_, n, rfl, h1, h2, q⟩
  · exact q.elim
def lenM (K : PySem.W.Frag) : List V → Hp → VK → Prop := fun xs H Q => match xs with
  | [.str z] => z.length ≤ sizeLine ∧ Q (.int z.length) H
  | [.ref p] => (∃ xs, (SqL K H p xs ∨ SqT K H p xs) ∧ Q (.int xs.length) H) ∨ ∃ kvs, H p = some (.dK kvs) ∧ Q (.int kvs.length) H
  | _ => False
theorem call_lenM : CallR X (.builtin "len") (lenM X.K) := cwk (CallR.or call_len_str (CallR.or call_len_seq call_lenD)) fun xs H Q q => by
  unfold lenM at q
  split at q
  · exact .inl ⟨_, rfl, q.1, q.2⟩
  · rcases q with ⟨xs, h, q⟩ | ⟨kvs, h, q⟩
    · exact .inr (.inl ⟨_, xs, rfl, h, q⟩)
    · exact .inr (.inr ⟨_, kvs, rfl, h, q⟩)
  · exact q.elim

/-! ### the same, the written part named -/
theorem addK (K : PySem.W.Frag) (h : X.K = K := by rfl) : OpR X (binaryOp .Add) (addM K) := h ▸ op_addM
theorem eqK (K : PySem.W.Frag) (hu : X.A.units + 64 < cLine) (h : X.K = K := by rfl) : OpR X (compareOp .Eq) (eqM K) := h ▸ op_eqM hu
theorem neK (K : PySem.W.Frag) (hu : X.A.units + 64 < cLine) (h : X.K = K := by rfl) : OpR X (compareOp .NotEq) (neM K) := h ▸ op_neM hu
theorem inK (K : PySem.W.Frag) (h : X.K = K := by rfl) : OpR X (compareOp .In) (inM K false) := h ▸ op_inM
theorem notInK (K : PySem.W.Frag) (h : X.K = K := by rfl) : OpR X (compareOp .NotIn) (inM K true) := h ▸ op_notInM
theorem pt_t (K : PySem.W.Frag) (ha : PE X a ta) (he : ∀ whole, isTrue a X.env whole = (do let v ← whole; standAt a.pos; holding [v] (truthy v)) := by intro _; rfl) (h : X.K = K := by rfl) : PT X a (tTr K ta) := h ▸ pt_tr ha he
theorem e_x (K : PySem.W.Frag) (ha : PE X a ta) (hb : PE X b tb) (hs : PlainIx b := by intro _ _; rfl) (h : X.K = K := by rfl) : PE X (.Subscript a b pos) (tOp (ixM K) ta tb) := h ▸ e_ix ha hb hs
theorem slK (K : PySem.W.Frag) (h : X.K = K := by rfl) : SlR X (slM K) := h ▸ sl_M
theorem lenK (K : PySem.W.Frag) (h : X.K = K := by rfl) : CallR X (.builtin "len") (lenM K) := h ▸ call_lenM
theorem listK (K : PySem.W.Frag) (h : X.K = K := by rfl) : CallR X (.type "list") (fun xs H Q => ∃ p ys, xs = [.ref p] ∧ (SqL K H p ys ∨ SqT K H p ys) ∧ ∀ l, H l = none → Q (.ref l) (upd H l (.lst ys))) := h ▸ call_list_of
theorem tupleK (K : PySem.W.Frag) (h : X.K = K := by rfl) : CallR X (.type "tuple") (fun xs H Q => ∃ p ys, xs = [.ref p] ∧ ((SqL K H p ys ∧ ∀ l, H l = none → Q (.ref l) (upd H l (.tup ys))) ∨ (SqT K H p ys ∧ Q (.ref p) H))) := h ▸ call_tuple_of
theorem isiK (K : PySem.W.Frag) (h : X.K = K := by rfl) : CallR X (.builtin "isinstance") (rIsi K) := h ▸ call_isi
theorem allK (K : PySem.W.Frag) (hc : X.calm = true) (h : X.K = K := by rfl) : CallR X (.builtin "all") (rAll K) := h ▸ cr_all hc
theorem anyK (K : PySem.W.Frag) (hc : X.calm = true) (h : X.K = K := by rfl) : CallR X (.builtin "any") (rAny K) := h ▸ cr_any hc
theorem sortedK (K : PySem.W.Frag) (h : X.K = K := by rfl) : CallR X (.builtin "sorted") (rSorted K) := h ▸ cr_sorted
theorem sumK (K : PySem.W.Frag) (hc : X.calm = true) (h : X.K = K := by rfl) : CallR X (.builtin "sum") (rSum K) := h ▸ cr_sum hc

/-! ### calls of own defs -/
structure Cal (P : Program) (w : World) (K : PySem.W.Frag) (mg : Str → Option Value) (base : Heap) (CX : CXT) (k : Nat) (x : Str) (f : Addr) (fd : FuncData) (ps : List Str) (sp : Sp) : Prop where
  G : FnOk P w K mg base CX k f fd ps sp
  b : Binds K fd ps []
  kp : PySem.W.keepIn K (.ref f) = true
  m : mg x = some (.ref f)
end
end El

set_option Elab.async false
set_option linter.all false
set_option maxRecDepth 100000
set_option maxHeartbeats 4000000
/-! Own words: an own exception's first row super().__init__(e), the rest of its __init__ by the layer. -/
namespace El
open PySem PySem.Spec PyProof.Rows L2 NdefX
abbrev supRow (p0 p1 p2 p3 p4 : Pos) (e1 : Expr) : Stmt := .Expr (.Call (.Attribute (.Call (.Name "super" p0) [] [] p1) "__init__" p2) [e1] [] p3) p4
abbrev supNF (name qual : Str) (params : Arguments) (body : List Stmt) (scope : Scope) (cc cda : Addr) : NF := ⟨name, qual, params, body, scope, [("__class__", cc)], cda⟩

theorem inv_unpin {X : Cx} {pins : List (Addr × Obj)} {σ : L2.St} {H : Hp} {s : Shared} (I : Inv X pins σ H s) : Inv X [] σ H s := I.pins_of fun p hp => absurd hp (by simp)

theorem fn_super {P : Program} {w : World} {K : PySem.W.Frag} {mg : Str → Option Value} {base : Heap} {CX : CXT} {k : Nat} {f cc cda D : Addr} {name qual : Str} {params : Arguments} {scope : Scope} {doc pm ct oc ccl cl : Value} {od cdd cld : Option Addr} {osl ccs csl : Array (Option Value)} {vs0 : Array Value} {file : Str} {tf : Tok} {cdD : ClassData}
    {N ps : List Str} {sp : Sp} {e1 : Expr} {rest : List Stmt} {p0 p1 p2 p3 p4 : Pos} {ar : Arg}
    (lk : K.lookup f = some ⟨oc, od, .func (PySem.W.fnX name qual params (supRow p0 p1 p2 p3 p4 e1 :: rest) scope [("__class__", cc)] .none .none doc pm none (.ref cda) ct), osl⟩)
    (hcd : PySem.W.codeIn K (.ref cda) qual = true) (S : NScope N ps ["__class__"] scope)
    (hcode : K.lookup cda = some ⟨ccl, cdd, .fields vs0, ccs⟩) (hvs : vs0[2]? = some (.str file tf)) (hfile : ((P.main.file : Str) == file) = true)
    (hcell : K.lookup cc = some ⟨cl, cld, .cell (some (.ref D)), csl⟩) (hD : PySem.W.clsIn K D = some cdD) (hsuper : mg "super" = none)
    (hop : PySem.W.nsIn K PySem.cStatics "thirdparty.any" = some none)
    (hp : (params.posonlyargs ++ params.args).head? = some ar) (hps : ps[0]? = some ar.arg)
    (hks : scope.names.lookup ("super" : Str) = some .globalImplicit) (htop : (P.main.scope.names.lookup ("super" : Str)).isSome = false)
    (hboot : bootBuiltins "super" = some (.type "super"))
    (len : ∀ vs H Q E, sp vs H Q E → vs.length = ps.length)
    (hbody : ∀ (A : Around) (outer : List Env) (s : Shared) (H : Hp) (vs : List V) (Q : VK) (E : XK), Room k (A.deeper (envF (supNF name qual params (supRow p0 p1 p2 p3 p4 e1 :: rest) scope cc cda) f s.heap.objs.size)) → sp vs H Q E →
      ∃ (a C : Addr) (ta : TA) (t : TS), vs[0]? = some (.ref a) ∧ H a = some (exo a C none) ∧ OexC K C ∧ PySem.W.mroIn K C (.ref D) = some true ∧ PySem.W.ks_superIn K C D "__init__" = some (some (.builtin "ValueError.__init__")) ∧ PySem.W.subIn K (.ref C) (.type "ValueError") = some true ∧
        PA (ncx CX P w K mg base N (supNF name qual params (supRow p0 p1 p2 p3 p4 e1 :: rest) scope cc cda) f A outer s H E) [e1] ta ∧
        PSs (ncx CX P w K mg base N (supNF name qual params (supRow p0 p1 p2 p3 p4 e1 :: rest) scope cc cda) f A outer s H E) rest t ∧
        ta (startF N vs [none]) H fun ws H1 => H1 a = some (exo a C none) ∧ ws.length ≤ 1000 ∧ t { nx := fun _ H' => Q .non H', rt := Q } (startF N vs [none]) H1)
    (hst : ∀ env : Env, starEach [e1] env = (false, eval e1 env) :: starEach [] env) {pl : Env → Sem Bool}
    (he : ∀ env : Env, eval (.Call (.Attribute (.Call (.Name "super" p0) [] [] p1) "__init__" p2) [e1] [] p3) env = (do
      let ov ← attributeBase (.Call (.Name "super" p0) [] [] p1) "__init__" env (eval (.Call (.Name "super" p0) [] [] p1) env)
      standAt p2.atName
      let (f, first) ← holding [ov] (getMethod ov "__init__" (pl env))
      callWith p3 f first (backTo p3 (starEach [e1] env)) []))
    (hsw : ∀ env : Env, swapsWith (.Call (.Attribute (.Call (.Name "super" p0) [] [] p1) "__init__" p2) [e1] [] p3) none p4.line env = pure false) :
    FnOk P w K mg base CX (k + 1) f (PySem.W.fnX name qual params (supRow p0 p1 p2 p3 p4 e1 :: rest) scope [("__class__", cc)] .none .none doc pm none (.ref cda) ct) ps sp := by
  refine ⟨len, fun A outer s H args us vs Q E hr e0 hb r hsp => ?_⟩
  have hl := len _ _ _ _ hsp
  have KX : K.In s.heap := e0.mod.kin.keeps fun b o e => (e0.bs b o e).1
  have lim : s.heap.NoLimit := e0.mod.nolimit.keeps fun b o e => (e0.bs b o e).1
  have hkc : scope.names.lookup ("__class__" : Str) = some .free := S.frk _ (List.mem_singleton.mpr rfl)
  refine PySem.ks_codeAny_call_defAt (fd := PySem.W.fnX name qual params (supRow p0 p1 p2 p3 p4 e1 :: rest) scope [("__class__", cc)] .none .none doc pm none (.ref cda) ct) (body := supRow p0 p1 p2 p3 p4 e1 :: rest) (binds := ps.zip us) hr.depth (KX _ _ lk) rfl lim
    (PySem.W.codeRec_of KX hcd) rfl hb S.nocell (fun ⟨n, _⟩ hy => S.par n (List.of_mem_zip hy).1) (fun h₁ hns kp => ?_) S.co S.gen S.kind
  obtain ⟨a, C, ta, t, hv0, hexo, TC, hmro, hsup, hsubV, hPA, hPS, hq⟩ := hbody A outer s H vs Q E (hr.deeper _) hsp
  have bcc : base.get? cc = some ⟨cl, cld, .cell (some (.ref D)), csl⟩ := e0.mod.kin _ _ hcell
  have CC : CellsAt [(("__class__" : Str), cc)] ["__class__"] [none] s.heap H := by
    refine ⟨rfl, fun y c e => ?_, fun x y c e1 e2 => ?_, fun i y hi => ?_⟩
    · have : c = cc := by
        simp only [List.lookup] at e
        split at e
        · exact (Option.some.inj e).symm
        · cases e
      subst this
      exact ⟨(e0.bs _ _ bcc).2, _, _, KX _ _ hcell, rfl⟩
    · simp only [List.lookup] at e1 e2
      split at e1
      · rename_i h1
        split at e2
        · rename_i h2
          rw [beq_iff_eq] at h1 h2
          rw [h1, h2]
        · cases e2
      · cases e1
    · have : i = 0 ∧ y = "__class__" := by
        cases i with
        | zero => simp at hi; exact ⟨rfl, hi.symm⟩
        | succ i => simp at hi
      obtain ⟨rfl, rfl⟩ := this
      exact ⟨cc, by simp [List.lookup], fun v hv => by simp at hv⟩
  have I : Inv (ncx CX P w K mg base N (supNF name qual params (supRow p0 p1 p2 p3 p4 e1 :: rest) scope cc cda) f A outer s H E) [] (startF N vs [none]) H { s with heap := h₁, toks := s.toks + (ps.zip us).length } :=
    inv_startN (F := supNF name qual params (supRow p0 p1 p2 p3 p4 e1 :: rest) scope cc cda) S hr.hd e0 hl r CC hns kp
  have KX1 : K.In h₁ := fun b o e => kp b o (KX b o e)
  obtain ⟨oD, hD1, hD2⟩ : ∃ oD, h₁.get? D = some oD ∧ oD.data = .cls cdD := by
    unfold PySem.W.clsIn at hD
    split at hD
    · rename_i c d cd' sl ho
      cases hD
      exact ⟨_, KX1 _ _ ho, rfl⟩
    · cases hD
  have ndP : ps.Nodup := by
    have q := S.nd.sublist (List.take_sublist (ps.length + 1) N)
    rw [show N.take (ps.length + 1) = ps ++ [("__class__" : Str)] from S.pre] at q
    exact (List.nodup_append.mp q).1
  obtain ⟨u0, hu0, ru0⟩ := r.get hv0
  obtain rfl : u0 = Value.ref a := ru0
  obtain ⟨t1, hga⟩ := exo_at I.hok hexo
  have hint : interactive (envF (supNF name qual params (supRow p0 p1 p2 p3 p4 e1 :: rest) scope cc cda) f s.heap.objs.size) = false := by
    have hk := S.kind
    unfold interactive
    simp [Env.blockKind, hk]
  refine PySem.ks_wpAt_execs_cons (PySem.ks_wpAt_Expr_any (PySem.ks_wpAt_MethodCall (PySem.ks_wpAt_super_base (ar := ar) hks hkc (by decide +kernel) rfl (KX1 _ _ lk) rfl hp rfl (KX1 _ _ hcode) rfl hvs hfile htop ?_) (he _)) hint (hsw _))
  obtain ⟨mb, hb1, hb2⟩ := e0.mod.blt
  have kb : ∀ b o, base.get? b = some o → h₁.get? b = some o := fun b o e => kp b o (e0.bs b o e).1
  refine PySem.W.ks_loadName_global S.kind hks (Calls.loadGlobal_builtin (e0.mod.glob.keeps kb) hsuper (hb1.keeps kb) ((hb2 _ (by decide)).trans hboot) ⟨rfl, ?_⟩)
  refine wpAny_loadName_free S.kind hkc rfl ⟨_, KX1 _ _ hcell, rfl⟩ ?_
  refine wpAny_loadName_local S.kind (S.par _ (List.mem_of_getElem? hps)) hns (zip_look ndP hps hu0) ?_
  refine PySem.ks_wpAny_isType_cls hD1 hD2 ⟨rfl, ?_⟩
  refine PySem.ks_wpAny_call_super hD1 hD2 hga rfl (fun c e => by cases e) (PySem.W.looks_mroIn KX1 hmro) (fun h2 eso k2 => ?_)
  have I2 : Inv (ncx CX P w K mg base N (supNF name qual params (supRow p0 p1 p2 p3 p4 e1 :: rest) scope cc cda) f A outer s H E) [] (startF N vs [none]) H { s with heap := h2, toks := s.toks + (ps.zip us).length } := I.kept k2
  have KX2 : K.In h2 := fun b o e => k2 b o (KX1 b o e)
  cases hcC : PySem.W.clsIn K C with
  | none => unfold PySem.W.ks_superIn at hsup; rw [hcC] at hsup; cases hsup
  | some cd =>
  unfold PySem.W.ks_superIn at hsup
  rw [hcC] at hsup
  have hga2 := k2 _ _ hga
  have INS : PySem.W.InstAt h2 a { cls := .ref C, dict := none, data := .fields #[.ref t1, .none, .none, .none, .bool false, .none] } C none := ⟨hga2, rfl, rfl, trivial⟩
  have hI : PySem.W.Looks (model P w) h2 (isInstance (.ref a) (.type "ValueError")) true := INS.type.andThen (PySem.W.looks_subIn KX2 hsubV)
  refine PySem.W.kxs_getMethod PySem.W.kxs_ValueError eso (PySem.W.looks_opaque KX2 hop) (l₀ := cd.mro) (fun A Q E s k q => wpAny_bind ((PySem.W.looks_clsIn KX2 hcC) A _ E s k (wpAny_pure q))) rfl KX2 hsup hI (PySem.W.ks_ne KX2 INS hcC) (by decide +kernel) ?_
  have I3 : Inv (ncx CX P w K mg base N (supNF name qual params (supRow p0 p1 p2 p3 p4 e1 :: rest) scope cc cda) f A outer s H E) [] (startF N vs [none]) H { s with heap := h2.push (PySem.W.kxs_mw "ValueError.__init__" a), toks := s.toks + (ps.zip us).length + 1 } := I2.kept fun b o e => Heap.get?_push_of_some _ e
  have hu : (h2.push (PySem.W.kxs_mw "ValueError.__init__" a)).get? h2.objs.size = some (PySem.W.kxs_mw "ValueError.__init__" a) := Heap.get?_push_at rfl rfl
  have hfree : H h2.objs.size = none := I2.hok.fresh (Nat.le_refl _)
  have I4 : Inv (ncx CX P w K mg base N (supNF name qual params (supRow p0 p1 p2 p3 p4 e1 :: rest) scope cc cda) f A outer s H E) [(h2.objs.size, PySem.W.kxs_mw "ValueError.__init__" a)] (startF N vs [none]) H { s with heap := h2.push (PySem.W.kxs_mw "ValueError.__init__" a), toks := s.toks + (ps.zip us).length + 1 } :=
    I3.pins_of fun p hp => by
      obtain rfl := List.mem_singleton.mp hp
      exact ⟨hu, hfree, fun z => absurd I2.lt (by rw [← z]; exact Nat.lt_irrefl _), I2.nofs (Nat.le_refl _), fun v z => by cases z⟩
  show wpAny _ _ (callWith p3 (.ref h2.objs.size) [] (backTo p3 (starEach [e1] _)) []) _ _ _
  rw [hst]
  refine PySem.W.kxs_callWith (i := "ValueError.__init__") (x := a) rfl (Calls.evalArgs_plain ?_)
  have hrun := hPA.run p3 _ _ _ _ _ I4 hq
  rw [hst] at hrun
  refine thn hrun fun us' s4 ⟨ws, H1, I5, r5, hexo1, hws, hq1⟩ => ?_
  have hu5 : s4.heap.get? h2.objs.size = some (PySem.W.kxs_mw "ValueError.__init__" a) := (I5.pin (h2.objs.size, PySem.W.kxs_mw "ValueError.__init__" a) (List.mem_append_right _ (List.mem_singleton.mpr rfl))).1
  refine ⟨hu5, ?_⟩
  obtain ⟨nm, q9, N9, bs, bm, sn, sub, ab, col, dd, k0, k1, k2', k3, k5, hC, hbm⟩ := TC.cls
  obtain ⟨t2, hga5⟩ := exo_at I5.hok hexo1
  have hC5 := I5.kIn _ _ hC
  have hus : us'.length ≤ sizeLine := by
    rw [← Paired.length r5, sizeLine_eq]
    omega
  obtain ⟨h5, g5, d5, tk5, os5⟩ := s4
  show wpAny _ _ (call (.ref h2.objs.size) ([] ++ us')) _ _ _
  rw [List.nil_append]
  refine wpAny_call (codeAny_of_tree ?_)
  show wpAny _ _ (callAny (.ref h2.objs.size) ⟨us', []⟩) _ _ _
  simp only [callAny]
  refine wpAny_bind (wpAny_load hu5 ?_)
  simp only [PySem.W.kxs_mw, show (Value.type "method-wrapper" == Value.type "method" || Value.type "method-wrapper" == Value.type "builtin_function_or_method" || Value.type "method-wrapper" == Value.type "method-wrapper") = true by decide, if_true]
  refine PySem.W.KFB.if_so (by decide) ?_
  refine wpAny_bind (PySem.W.check_bound_init PySem.F.excBase_ValueError.toExcCallFacts hC5 hga5 rfl ?_)
  refine wpAny_bind (wpAny_pure (wpAny_pure ?_))
  refine ⟨plainId_quiet PySem.F.excBase_ValueError.init.plain _, codeAny_builtin PySem.F.excBase_ValueError.initEntry ?_⟩
  refine PySem.W.exc_init_tree (cls := .ref C) (t0 := t2) (dv := none) (c2 := .none) (c3 := .none) (b4 := .bool false) hga5 hus (fun h6 k6 e6 _ => ?_)
  have J := I5.write (t' := tk5) (x := a) (e := a) (o := exo a C none) (by rw [hexo1]; exact True.intro) (.inl rfl) k6 ⟨_, e6⟩ (exo_ok e6)
  have eu : upd H1 a (exo a C none) = H1 := by
    funext b
    by_cases hb : b = a
    · rw [hb, upd_same, hexo1]
    · rw [upd_ne hb]
  rw [eu] at J
  have J0 := inv_unpin J
  refine wpAt_of_wpAny ?_
  refine wpAny_mono (hPS.run [] _ _ H1 _ J0 hq1) (fun fl s' hs => ?_) fun e s' hs => hs
  have fin : ∀ {σ' : L2.St} {H' : Hp} {v : V} {u : Value}, Inv (ncx CX P w K mg base N (supNF name qual params (supRow p0 p1 p2 p3 p4 e1 :: rest) scope cc cda) f A outer s H E) [] σ' H' s' → L2.RelV v u → Q v H' → CE outer P w H s Q u s' :=
    fun {σ' H' v u} J rv q => ⟨v, H', J.os, J.bare, J.base, J.hok, rv, q⟩
  cases fl with
  | ret u =>
    obtain ⟨v, σ', H', J, rv, q⟩ := hs
    exact fin J rv q
  | next =>
    obtain ⟨σ', H', J, q⟩ := hs
    exact fin (v := V.non) (u := Value.none) J rfl q
  | brk =>
    obtain ⟨_, _, _, q⟩ := hs
    exact False.elim q
  | cont =>
    obtain ⟨_, _, _, q⟩ := hs
    exact False.elim q
end El

set_option Elab.async false
set_option linter.all false
set_option maxRecDepth 100000
set_option maxHeartbeats 4000000
/-! Own words: what the written part says of an own exception class, isinstance of what an except clause holds. -/
namespace El
open PySem PySem.Spec PyProof.Rows L2 NdefX
/-- isinstance(e, c), e the exception that the suite holds, with a dict -/
def rIsX (K : PySem.W.Frag) (cls : Value) (d : Option Addr) (a : Addr) : List V → Hp → VK → Prop := fun xs H Q => ∃ (D dd : Addr) (fs : List (Str × V)) (c : V) (cv : Value) (b : Bool), xs = [.ref a, c] ∧ cls = .ref D ∧ d = some dd ∧ H dd = some (.xd fs) ∧ ExcC K D ∧ (∀ u, RelV c u → u = cv) ∧ PySem.W.kitOne K (.ref D) cv = some b ∧ Q (.bl b) H
theorem call_isX {X : Cx} {a : Addr} {oe : Obj} {cls : Value} {d : Option Addr} {pn : List (Addr × Obj)} (hz : Zc cls d oe) (hf : ∃ vs, oe.data = .fields vs) : CallR (X.suite a ((a, oe) :: pn)) (.builtin "isinstance") (rIsX X.K cls d a) := by
  intro pins s σ H xs us Q I r h
  obtain ⟨D, dd, fs, c, cv, b, rfl, rfl, rfl, ea, C, hcv, e, q⟩ := h
  cases r with
  | cons rx rr =>
    cases rr with
    | cons rt rr =>
      cases rr
      cases rx
      have ec := hcv _ rt
      subst ec
      obtain ⟨hget, _⟩ := I.pin (a, oe) (List.mem_append.mpr (.inl List.mem_cons_self))
      obtain ⟨vs, hv⟩ := hf
      have hx : ObjOk X.prog X.w H s.heap dd (.xd fs) := I.hok dd _ ea
      obtain ⟨mA, hns, hr⟩ := hx
      obtain ⟨od, ho, hl⟩ := lookIn_ns hns
      have J : PySem.W.InstAt s.heap a oe D (some od) := ⟨hget, hz.1, by unfold PySem.W.notCls; rw [hv] <;> rfl, by rw [hz.2]; exact ho⟩
      obtain ⟨cdD, hcD, _⟩ := PySem.W.any_some C.hd
      exact PySem.W.kia_one (PySem.W.kitx_exc (by rw [hcD]; rfl) C.hg C.hk C.hs C.ha C.hn C.ht C.hm) I.kIn J e (fun z => nomatch z) fun tk => ⟨.bl b, H, I.kept (t' := tk) fun _ _ z => z, rfl, q⟩
/-- an own exception class with its own __init__ -/
structure ExK (K : PySem.W.Frag) (C fI : Addr) (fields : List Str) : Prop where
  oex : OexC K C
  sup : PySem.W.ks_superIn K C C "__init__" = some (some (.builtin "ValueError.__init__"))
  subV : PySem.W.subIn K (.ref C) (.type "ValueError") = some true
  mro : PySem.W.mroIn K C (.ref C) = some true
  iC : PySem.W.findIn K (.ref C) "__init__" = some (some (.ref fI))
  tI : PySem.W.typeIn K (.ref fI) = some (.type "function")
  no : ∀ f ∈ fields, PySem.W.findIn K (.ref C) f = some none
  xf : XfC K C
  is : ExcC K C
/-- what a suite that catches it must know -/
structure ExV (K : PySem.W.Frag) (C : Addr) (fields : List Str) : Prop where
  no : ∀ f ∈ fields, PySem.W.findIn K (.ref C) f = some none
  xf : XfC K C
  is : ExcC K C
/-- the i-th def of the class body -/
def mthS (s : Stmt) (i : Nat) : Stmt := match s with
  | .ClassDef _ _ _ b _ _ _ _ _ _ _ => b.getD i (.Pass ⟨0, 0, 0, 0⟩)
  | _ => .Pass ⟨0, 0, 0, 0⟩
/-- the same, from what the written part answers -/
theorem exk_mk {K : PySem.W.Frag} {C fI N : Addr} {fields : List Str} {nm q : Str} {bs bm : List Value} {sn : List Str} {sub : List Value} {ab : Bool} {col : Option Bool} {dd : Option Addr} {k0 k1 k2 k3 k5 : Option Value}
    (cls : K.lookup C = some (excClassObj nm q C N bs bm true sn sub ab col dd k0 k1 k2 k3 k5 "ValueError.__new__")) (ref : PySem.HandSPX.refsVE bm = true)
    (sa : PySem.W.findIn K (.ref C) "__setattr__" = some (some (.builtin "object.__setattr__"))) (exC : PySem.W.subIn K (.ref C) (.type "BaseException") = some true) (tyC : PySem.W.typeIn K (.ref C) = some (.type "type")) (kC : PySem.W.keepIn K (.ref C) = true)
    (sup : PySem.W.ks_superIn K C C "__init__" = some (some (.builtin "ValueError.__init__"))) (subV : PySem.W.subIn K (.ref C) (.type "ValueError") = some true) (mro : PySem.W.mroIn K C (.ref C) = some true)
    (iC : PySem.W.findIn K (.ref C) "__init__" = some (some (.ref fI))) (tI : PySem.W.typeIn K (.ref fI) = some (.type "function")) (no : ∀ f ∈ fields, PySem.W.findIn K (.ref C) f = some none)
    (ga : PySem.W.findIn K (.ref C) "__getattribute__" = some (some (.builtin "BaseException.__getattribute__"))) (gg : PySem.W.findIn K (.ref C) "__getattr__" = some none) (hd : PySem.W.hasDictIn K C = true)
    (hcl : PySem.W.findIn K (.ref C) "__class__" = some (some (.builtin "object.__class__"))) (hn : PySem.W.specialIn K (.builtin "object.__class__") "__get__" = some (some (.builtin "getset_descriptor.__get__"))) (ht : PySem.W.takesIn K (.builtin "object.__class__") = some true) (hm : PySem.W.mroIn K C (.type "object") = some true) : ExK K C fI fields :=
  ⟨⟨⟨nm, q, N, bs, bm, sn, sub, ab, col, dd, k0, k1, k2, k3, k5, cls, ref⟩, sa, exC, tyC, kC⟩, sup, subV, mro, iC, tI, no, ⟨ga, gg, exC, hd⟩, ⟨ga, gg, exC, hd, hcl, hn, ht, hm⟩⟩

/-! ### an own exception's __init__, by what it keeps -/
def spE (C : Addr) (ok : List V → Prop) (fs : List V → List (Str × V)) : Sp := fun vs H Q _ => ∃ (a : Addr) (ws : List V), vs = .ref a :: ws ∧ ok ws ∧ H a = some (exo a C none) ∧
  ∀ (dx : Addr) (H' : Hp), H dx = none → dx ≠ a → H' a = some (exo a C (some dx)) → H' dx = some (exd dx (fs ws)) → (∀ b, b ≠ a → b ≠ dx → H' b = H b) → Q .non H'
theorem mk_spE {C : Addr} {ok : List V → Prop} {fs : List V → List (Str × V)} {vs : List V} {H1 : Hp} {Q : XK} (hl : vs.length ≤ 1000) (ho : ok vs) (hq : ∀ d, H1 d = none → Q (.ref C) (some d) (upd H1 d (.xd (fs vs)))) :
    vs.length ≤ 1000 ∧ ∀ a, H1 a = none → spE C ok fs (.ref a :: (vs ++ [])) (upd H1 a (exo a C none))
      (fun v H2 => v = .non ∧ ∃ (d : Addr) (fs : List (Str × V)), H2 a = some (exo a C (some d)) ∧ H2 d = some (exd d fs) ∧ H1 d = none ∧ Q (.ref C) (some d) (upd (del H2 a) d (.xd fs))) (fun _ _ _ => False) := by
  refine ⟨hl, fun a na => ⟨a, vs, by rw [List.append_nil], ho, upd_same, fun dx H' n ne e1 e2 hh => ⟨rfl, dx, fs vs, e1, e2, ?_, ?_⟩⟩⟩
  · rw [upd_ne ne] at n
    exact n
  · have nd : H1 dx = none := by rw [upd_ne ne] at n; exact n
    have e : upd (del H' a) dx (.xd (fs vs)) = upd H1 dx (.xd (fs vs)) := by
      funext b
      by_cases hb : b = dx
      · rw [hb, upd_same, upd_same]
      · rw [upd_ne hb, upd_ne hb]
        by_cases ha : b = a
        · rw [ha, del_same, na]
        · rw [del_ne ha, hh b ha hb, upd_ne ha]
    rw [e]
    exact hq dx nd
/-- the class, its __init__, ready for a raise -/
structure CalE (P : Program) (w : World) (K : PySem.W.Frag) (mg : Str → Option Value) (base : Heap) (k : Nat) (x : Str) (C f : Addr) (fd : FuncData) (ps : List Str) (ok : List V → Prop) (fs : List V → List (Str × V)) (fields : List Str) : Prop where
  G : FnOk P w K mg base CX0 k f fd ps (spE C ok fs)
  b : Binds K fd ps []
  X : ExK K C f fields
  m : mg x = some (.ref C)
/-- one store, the dict being new -/
theorem ost1 {a C : Addr} {H : Hp} {f : Str} {y : V} {Q : Hp → Prop} (ea : H a = some (exo a C none)) (q : ∀ dx H', H dx = none → dx ≠ a → H' a = some (exo a C (some dx)) → H' dx = some (exd dx [(f, y)]) → (∀ b, b ≠ a → b ≠ dx → H' b = H b) → Q H') :
    ∀ dx, H dx = none → dx ≠ a → Q (upd (upd H dx (exd dx [(f, y)])) a (exo a C (some dx))) := fun dx n ne =>
  q dx _ n ne upd_same (by rw [upd_ne ne, upd_same]) fun b h1 h2 => by rw [upd_ne h1, upd_ne h2]
end El

set_option Elab.async false
set_option linter.all false
set_option maxRecDepth 100000
/-! Own words: a text times an int, the text of an int. -/
namespace El
open PySem PySem.Spec PyProof.Rows L2
def repS (z : Str) (k : Int) : Str := if k < 1 then Str.empty else if (k == 1 || z.length == 0) = true then z else ⟨(List.replicate k.toNat z.cps).foldl (· ++ ·) #[]⟩
theorem foldl_cps : ∀ (n : Nat) (a b : Array Nat), ((List.replicate n b).foldl (· ++ ·) a).toList = a.toList ++ (List.replicate n b.toList).flatten
  | 0, a, b => by simp
  | n + 1, a, b => by
    rw [List.replicate_succ, List.foldl_cons, foldl_cps n, Array.toList_append, List.replicate_succ, List.flatten_cons, List.append_assoc]
theorem repS_cps (z : Str) (k : Int) : (repS z k).cps.toList = (List.replicate k.toNat z.cps.toList).flatten := by
  unfold repS
  split
  · rename_i h
    rw [show k.toNat = 0 by omega]
    rfl
  · split
    · rename_i h1 h
      rw [Bool.or_eq_true, beq_iff_eq, beq_iff_eq] at h
      rcases h with h | h
      · subst h
        simp
      · have : z.cps.toList = [] := List.eq_nil_of_length_eq_zero (by rw [Array.length_toList]; exact h)
        rw [this]
        simp
    · rw [foldl_cps]
      rfl
theorem repS1 {c : Nat} {k : Int} : (repS ⟨#[c]⟩ k).cps.toList = List.replicate k.toNat c := by
  rw [repS_cps]
  simp
theorem op_mulS {X : Cx} : OpR X (binaryOp .Mult) (fun x y H Q => ∃ (z : Str) (k : Int), x = .str z ∧ y = .int k ∧ k ≤ 1000 ∧ -1000 ≤ k ∧ z.length ≤ 1000 ∧ Q (.str (repS z k)) H) := by
  intro pins s σ H x y v u Q I rx ry h
  obtain ⟨z, k, rfl, rfl, h1, h2, h3, q⟩ := h
  obtain ⟨t, rfl⟩ := rx
  obtain ⟨t', rfl⟩ := ry
  have e : (2 : Int) ^ 63 = 9223372036854775808 := by decide
  refine PySem.P.mul_str ?_ (fun n1 n2 => ?_) (fun n1 n2 => ?_) ?_
  · rw [e, decide_eq_false (by omega), decide_eq_false (by omega)]
    rfl
  · rw [e]
    have : ((9223372036854775808 : Int) - 1) / 1000 ≤ (9223372036854775808 - 1) / k := by
      refine Int.le_ediv_of_mul_le (by omega) ?_
      have : (9223372036854775808 - 1) / 1000 * k ≤ (9223372036854775808 - 1) / 1000 * 1000 := Int.mul_le_mul_of_nonneg_left h1 (by decide)
      refine Int.le_trans this (by decide)
    have : (1000 : Int) ≤ (9223372036854775808 - 1) / 1000 := by decide
    omega
  · have : z.length * k.toNat ≤ 1000 * 1000 := Nat.mul_le_mul h3 (by omega)
    show decide _ = false
    refine decide_eq_false ?_
    rw [sizeLine_eq]
    omega
  · unfold repS at q
    split
    · rename_i c
      rw [if_pos c] at q
      exact ⟨by decide, .str _, H, I.tok _, ⟨_, rfl⟩, q⟩
    · rename_i c
      rw [if_neg c] at q
      split
      · rename_i c2
        rw [if_pos c2] at q
        exact ⟨.str _, H, I, ⟨_, rfl⟩, q⟩
      · rename_i c2
        rw [if_neg c2] at q
        refine ⟨?_, .str _, H, I.tok _, ⟨_, rfl⟩, q⟩
        have e2 := foldl_cps k.toNat #[] z.cps
        have e3 : ((List.replicate k.toNat z.cps).foldl (· ++ ·) #[]).size = k.toNat * z.length := by
          rw [← Array.length_toList, e2, List.length_append]
          simp
          rfl
        show ((List.replicate k.toNat z.cps).foldl (· ++ ·) #[]).size ≤ sizeLine
        rw [e3, sizeLine_eq]
        have : k.toNat * z.length ≤ 1000 * 1000 := Nat.mul_le_mul (by omega) h3
        omega
/-- times, of texts too -/
def mulSM : R2 := fun x y H Q => match x, y with
  | .str z, .int k => k ≤ 1000 ∧ -1000 ≤ k ∧ z.length ≤ 1000 ∧ Q (.str (repS z k)) H
  | _, _ => mulM x y H Q
theorem op_mulSM {X : Cx} : OpR X (binaryOp .Mult) mulSM := opwk (OpR.or op_mulS op_mulM) fun x y H Q q => by
  unfold mulSM at q
  split at q
  · exact .inl ⟨_, _, rfl, rfl, q⟩
  · exact .inr q
/-- the signs of a number's text -/
theorem int_digits {i : Int} (h : 0 ≤ i) : ∀ c ∈ ((toString i : String) : Str).cps.toList, 48 ≤ c ∧ c ≤ 57 := by
  intro c hm
  by_cases hk : c ≠ 45 ∧ (c < 48 ∨ 57 < c)
  · exact absurd hm (int_text_free' c hk i)
  · by_cases h45 : c = 45
    · exfalso
      subst h45
      obtain ⟨n, rfl⟩ := Int.eq_ofNat_of_zero_le h
      rw [signs_ofString] at hm
      obtain ⟨ch, hc, e⟩ := List.mem_map.mp hm
      have hd : ch.isDigit = true := by
        have : ch ∈ (Nat.repr n).toList := hc
        exact Nat.isDigit_of_mem_toDigits (b := 10) (n := n) (by decide) (by decide) (by simpa [Nat.repr] using this)
      have := digit_range hd
      omega
    · omega
theorem int_text_ne (i : Int) : ((toString i : String) : Str).cps.toList ≠ [] := by
  rw [signs_ofString]
  intro h
  have h := List.map_eq_nil_iff.mp h
  have nn : ∀ n : Nat, (Nat.repr n).toList ≠ [] := fun n e => by
    have : Nat.toDigits 10 n = [] := by simpa [Nat.repr] using e
    exact Nat.toDigits_ne_nil this
  cases i with
  | ofNat n => exact nn n h
  | negSucc n =>
    have : ("-" ++ Nat.repr (n + 1)).toList = [] := h
    simp at this
end El

set_option Elab.async false
set_option linter.all false
set_option maxRecDepth 100000
set_option maxHeartbeats 4000000
/-! Own words: operators of own classes, static methods. -/
namespace El
open PySem PySem.Spec PyProof.Rows L2
theorem cmpBack_of {X : Cx} {pins : List (Addr × Obj)} {σ : L2.St} {Q : VK} {u : Value} {s' : Shared} (h : EP X pins σ Q u s') : PySem.W.CmpBack (EP X pins σ Q) u s' := by
  obtain ⟨v, H', I, r, q⟩ := id h
  cases v with
  | non => cases (show u = Value.none from r); exact h
  | bl b => cases (show u = Value.bool b from r); exact h
  | int i => obtain ⟨t, e⟩ := (show ∃ t, u = Value.int i t from r); subst e; exact h
  | str i => obtain ⟨t, e⟩ := (show ∃ t, u = Value.str i t from r); subst e; exact h
  | byt i => obtain ⟨t, e⟩ := (show ∃ t, u = Value.bytes i t from r); subst e; exact h
  | flt i => obtain ⟨t, e⟩ := (show ∃ t, u = Value.float i t from r); subst e; exact h
  | ref a => cases (show u = Value.ref a from r); exact h
  | ty n => cases (show u = Value.type n from r); exact h
/-- an own class's method for an operator -/
structure OpC (K : PySem.W.Frag) (C f : Addr) (op : Operator) : Prop where
  sf : PySem.W.selfFirst K C = true
  at_ : PySem.W.findIn K (.ref C) (PySem.dunder op.info.2) = some (some (.ref f))
  fn : PySem.W.isFn K (.ref f) = true
/-- .. with a value of the built-in type T on the right -/
structure OpT (K : PySem.W.Frag) (C f : Addr) (op : Operator) (T : String) : Prop where
  c : OpC K C f op
  hr : ∃ rc, PySem.W.findIn K (.ref C) (PySem.dunderR op.info.2) = some rc ∧ (rc = none ∨ ∃ g : Addr, rc = some (.ref g))
  h1 : ∃ fo, PySem.W.findIn K (.type T) (PySem.dunder op.info.2) = some fo
  h2 : ∃ ro, PySem.W.findIn K (.type T) (PySem.dunderR op.info.2) = some ro
  sub : PySem.W.subIn K (.type T) (.ref C) = some false
structure InvC (K : PySem.W.Frag) (C f : Addr) : Prop where
  at_ : PySem.W.findIn K (.ref C) "__invert__" = some (some (.ref f))
  fn : PySem.W.isFn K (.ref f) = true
section
variable {X : Cx} {CX : CXT} {k : Nat} {C f : Addr} {fd : FuncData} {ps : List Str} {sp : Sp} {E : XK} {op : Operator}
/-- a op b, both of the class at C -/
def rOwn (C : Addr) (sp : Sp) (E : XK) : R2 := fun x y H Q => ∃ a b dx fs dy gs, x = .ref a ∧ y = .ref b ∧ H a = some (.ins C dx fs) ∧ H b = some (.ins C dy gs) ∧ sp [.ref a, .ref b] H Q E
theorem op_own (c : OpC X.K C f op) (F : FnOk X.prog X.w X.K X.mg X.base CX k f fd ps sp) (hr : Room k X.A) (hb : Binds X.K fd ps []) (hx : Passes CX X E) : OpR X (binaryOp op) (rOwn C sp E) := by
  intro pins s σ H x y v u Q I rx ry h
  obtain ⟨a, b, dx, fs, dy, gs, rfl, rfl, ea, eb, q⟩ := h
  obtain rfl : v = Value.ref a := rx
  obtain rfl : u = Value.ref b := ry
  obtain ⟨m, fr⟩ := I.fr
  obtain ⟨mA, O, _⟩ := ins_get I.hok ea
  obtain ⟨od, J, _⟩ := O.look
  obtain ⟨mB, O2, _⟩ := ins_get I.hok eb
  obtain ⟨od2, J2, _⟩ := O2.look
  refine PySem.W.binop_K fr I.ok.mod.kin J J2.type c.sf c.at_ c.fn ?_
  refine wpAny_mono (run_fn (us := [.ref a, .ref b]) (vs := [.ref a, .ref b]) (ds := []) (dvs := []) F hr hb .nil hx I (.cons rfl (.cons rfl .nil)) q) (fun u' s' h' => cmpBack_of h') fun _ _ z => z
/-- a op n, n an int -/
def rOwnI (C : Addr) (sp : Sp) (E : XK) : R2 := fun x y H Q => ∃ a dx fs i, x = .ref a ∧ y = .int i ∧ H a = some (.ins C dx fs) ∧ sp [.ref a, .int i] H Q E
theorem op_ownI (c : OpT X.K C f op "int") (F : FnOk X.prog X.w X.K X.mg X.base CX k f fd ps sp) (hr : Room k X.A) (hb : Binds X.K fd ps []) (hx : Passes CX X E) : OpR X (binaryOp op) (rOwnI C sp E) := by
  intro pins s σ H x y v u Q I rx ry h
  obtain ⟨a, dx, fs, i, rfl, rfl, ea, q⟩ := h
  obtain rfl : v = Value.ref a := rx
  obtain ⟨t, rfl⟩ := ry
  obtain ⟨m, fr⟩ := I.fr
  obtain ⟨mA, O, _⟩ := ins_get I.hok ea
  obtain ⟨od, J, _⟩ := O.look
  obtain ⟨rc, hr1, hr2⟩ := c.hr
  obtain ⟨fo, h1⟩ := c.h1
  obtain ⟨ro, h2⟩ := c.h2
  refine PySem.W.ksp_binT fr I.ok.mod.kin J (T := "int") rfl c.c.sf c.c.at_ c.c.fn hr1 hr2 h1 h2 c.sub ?_
  refine wpAny_mono (run_fn (us := [.ref a, .int i t]) (vs := [.ref a, .int i]) (ds := []) (dvs := []) F hr hb .nil hx I (.cons rfl (.cons ⟨t, rfl⟩ .nil)) q) (fun u' s' h' => cmpBack_of h') fun _ _ z => z
/-- ~a -/
theorem un_own (c : InvC X.K C f) (F : FnOk X.prog X.w X.K X.mg X.base CX k f fd ps sp) (hr : Room k X.A) (hb : Binds X.K fd ps []) (hx : Passes CX X E) : UnR X (unaryOp .Invert) (fun x H Q => ∃ a dx fs, x = .ref a ∧ H a = some (.ins C dx fs) ∧ sp [.ref a] H Q E) := by
  intro pins s σ H x v Q I rx h
  obtain ⟨a, dx, fs, rfl, ea, q⟩ := h
  obtain rfl : v = Value.ref a := rx
  obtain ⟨m, fr⟩ := I.fr
  obtain ⟨mA, O, _⟩ := ins_get I.hok ea
  obtain ⟨od, J, _⟩ := O.look
  exact PySem.W.ksp_inv fr I.ok.mod.kin J c.at_ c.fn (run_fn (us := [.ref a]) (vs := [.ref a]) (ds := []) (dvs := []) F hr hb .nil hx I (.cons rfl .nil) q)
end

section
variable {X : Cx} {CX : CXT} {k : Nat} {C f : Addr} {fd : FuncData} {ps : List Str} {sp : Sp} {E : L2.St → XK} {op : Operator} {a b : Expr} {ta tb : TE} {pos : Pos}
/-- .. what it lets out being taken where it stands -/
def tOwnS (C : Addr) (sp : Sp) (E : L2.St → XK) (ta tb : TE) : TE := fun σ H Q => ta σ H fun x H1 => tb σ H1 fun y H2 => ∃ a b dx fs dy gs, x = .ref a ∧ y = .ref b ∧ H2 a = some (.ins C dx fs) ∧ H2 b = some (.ins C dy gs) ∧ sp [.ref a, .ref b] H2 Q (E σ)
theorem pe_bopS (c : OpC X.K C f op) (F : FnOk X.prog X.w X.K X.mg X.base CX k f fd ps sp) (hr : Room k X.A) (hb : Binds X.K fd ps []) (hx : ∀ σ, PassesAt CX X σ (E σ)) (ha : PE X a ta) (hb2 : PE X b tb) : PE X (.BinOp a op b pos) (tOwnS C sp E ta tb) := by
  refine ⟨fun pins s σ H Q I h => ?_⟩
  refine wpAny_BinOp (thn (ha.run pins s σ H _ I h) fun v s1 ⟨x, H1, I1, rx, q1⟩ => thn (hb2.run pins s1 σ H1 _ I1 q1) fun u s2 ⟨y, H2, I2, ry, a, b, dx, fs, dy, gs, ex, ey, ea, eb, q⟩ => ?_)
  subst ex ey
  obtain rfl : v = Value.ref a := rx
  obtain rfl : u = Value.ref b := ry
  obtain ⟨m, fr⟩ := I2.fr
  obtain ⟨mA, O, _⟩ := ins_get I2.hok ea
  obtain ⟨od, J, _⟩ := O.look
  obtain ⟨mB, O2, _⟩ := ins_get I2.hok eb
  obtain ⟨od2, J2, _⟩ := O2.look
  refine PySem.W.binop_K fr I2.ok.mod.kin J J2.type c.sf c.at_ c.fn ?_
  refine wpAny_mono (run_fnS (us := [.ref a, .ref b]) (vs := [.ref a, .ref b]) F hr hb (hx σ) I2 (.cons rfl (.cons rfl .nil)) q) (fun u' s' h' => cmpBack_of h') fun _ _ z => z
end

/-! ### static methods, by the class's name -/
structure SMet (K : PySem.W.Frag) (C : Addr) (mc : Value) (m : Str) (p g : Addr) : Prop where
  at_ : PySem.W.findCls K (.ref C) mc m = some (.get (.builtin "staticmethod.__get__") (.ref p) .none (.ref C))
  rc : ∃ rest, PySem.W.recIn K p "staticmethod" = some (.ref g :: rest)
  kp : PySem.W.keepIn K (.ref g) = true
section
variable {X : Cx} {CX : CXT} {k : Nat} {C p g : Addr} {mc : Value} {fd : FuncData} {ps : List Str} {sp : Sp} {E : XK} {o e : Expr} {es : List Expr} {m : Str} {pos apos : Pos} {ta : TE} {t : TA} {pl : Sem Bool}
def tSM (C : Addr) (sp : Sp) (E : XK) (ta : TE) (t : TA) : TE := fun σ H Q => ta σ H fun x H1 => x = .ref C ∧ t σ H1 fun vs H2 => sp vs H2 Q E
theorem getsm_ok {pins : List (Addr × Obj)} {σ : L2.St} {H : Hp} {s : Shared} {A : Around} {E : Value → Shared → Prop} {Q : Value × List Value → Shared → Prop} (I : Inv X pins σ H s) (r : ClX.CRead X.K C mc) (c : SMet X.K C mc m p g)
    (h : ∀ s', Inv X pins σ H s' → Q (.ref g, []) s') : wpAny (model X.prog X.w) A (getMethod (.ref C) m pl) Q E s := by
  obtain ⟨rest, hp⟩ := c.rc
  refine PySem.W.method_cls I.kIn r.ga ?_
  refine PySem.W.cls_bind I.kIn r.rd c.at_ ?_
  exact wpAny_call (PySem.W.sm_get (s := { s with toks := s.toks + 1 }) I.kIn hp (PySem.W.handed_on rfl (h _ (I.tok _))))
theorem pe_smeth (he : PE X o ta) (r : ClX.CRead X.K C mc) (c : SMet X.K C mc m p g) (F : FnOk X.prog X.w X.K X.mg X.base CX k g fd ps sp) (hr : Room k X.A) (hb : Binds X.K fd ps []) (hx : Passes CX X E) (ha : PA X (e :: es) t)
    (hst : starEach (e :: es) X.env = (false, eval e X.env) :: starEach es X.env := by rfl) (hpl : (backTo pos (starEach es X.env)).any (·.1) = false := by rfl)
    (ht : eval (.Call (.Attribute o m apos) (e :: es) [] pos) X.env = (do
      let ov ← eval o X.env
      standAt apos.atName
      let (f, first) ← holding [ov] (getMethod ov m pl)
      callWith pos f first (backTo pos (starEach (e :: es) X.env)) (backToKw pos (keywordEach [] X.env))) := by rfl) :
    PE X (.Call (.Attribute o m apos) (e :: es) [] pos) (tSM C sp E ta t) := by
  refine ⟨fun pins s σ H Q I h => ?_⟩
  refine PySem.W.methodCall_KW (pl := pl) (thn (he.run pins s σ H _ I h) fun u s1 ⟨x, H1, I1, rx, ex, q⟩ => ?_) ht
  subst ex
  obtain rfl : u = Value.ref C := rx
  refine getsm_ok I1 r c fun s2 I2 => ?_
  refine PySem.W.callWith_K (h₀ := X.base) I2.ok.mod.kin c.kp (thn (ha.run pos pins s2 σ H1 _ I2 q) fun us s3 ⟨vs, H2, I3, rv, q2⟩ => ⟨I3.kIn, ?_⟩) hst hpl
  have hl : sp (vs ++ []) H2 Q E := by rw [List.append_nil]; exact q2
  exact run_fn (ds := []) (dvs := []) F hr hb .nil hx I3 rv hl
theorem pe_smeth0 (he : PE X o ta) (r : ClX.CRead X.K C mc) (c : SMet X.K C mc m p g) (F : FnOk X.prog X.w X.K X.mg X.base CX k g fd ps sp) (hr : Room k X.A) (hb : Binds X.K fd ps []) (hx : Passes CX X E)
    (ht : eval (.Call (.Attribute o m apos) [] [] pos) X.env = (do
      let ov ← eval o X.env
      standAt apos.atName
      let (f, first) ← holding [ov] (getMethod ov m pl)
      callWith pos f first (backTo pos (starEach [] X.env)) (backToKw pos (keywordEach [] X.env))) := by rfl) :
    PE X (.Call (.Attribute o m apos) [] [] pos) (tSM C sp E ta tNil) := by
  refine ⟨fun pins s σ H Q I h => ?_⟩
  refine PySem.W.methodCall_KW (pl := pl) (thn (he.run pins s σ H _ I h) fun u s1 ⟨x, H1, I1, rx, ex, q⟩ => ?_) ht
  subst ex
  obtain rfl : u = Value.ref C := rx
  refine getsm_ok I1 r c fun s2 I2 => ?_
  exact PySem.W.callWith_K0 I2.kIn c.kp (run_fn (us := []) (vs := []) (ds := []) (dvs := []) F hr hb .nil hx I2 .nil q)
end

/-! ### defs of own classes, ready to be called -/
structure CalB (P : Program) (w : World) (K : PySem.W.Frag) (mg : Str → Option Value) (base : Heap) (CX : CXT) (k : Nat) (f : Addr) (fd : FuncData) (ps : List Str) (sp : Sp) : Prop where
  G : FnOk P w K mg base CX k f fd ps sp
  b : Binds K fd ps []
structure CalI (P : Program) (w : World) (K : PySem.W.Frag) (mg : Str → Option Value) (base : Heap) (CX : CXT) (k : Nat) (x : Str) (C f : Addr) (fd : FuncData) (ps : List Str) (sp : Sp) : Prop extends CalB P w K mg base CX k f fd ps sp where
  mkc : Mk K C f
  m : mg x = some (.ref C)
structure CalS (P : Program) (w : World) (K : PySem.W.Frag) (mg : Str → Option Value) (base : Heap) (CX : CXT) (k : Nat) (C p : Addr) (m : Str) (f : Addr) (fd : FuncData) (ps : List Str) (sp : Sp) : Prop extends CalB P w K mg base CX k f fd ps sp where
  rd : ClX.CRead K C (.type "type")
  sm : SMet K C (.type "type") m p f
structure CalP (P : Program) (w : World) (K : PySem.W.Frag) (mg : Str → Option Value) (base : Heap) (CX : CXT) (k : Nat) (C p : Addr) (m : Str) (f : Addr) (fd : FuncData) (ps : List Str) (sp : Sp) : Prop extends CalB P w K mg base CX k f fd ps sp where
  cl : Cls K C
  pr : PropOf K C m p f
structure CalO (P : Program) (w : World) (K : PySem.W.Frag) (mg : Str → Option Value) (base : Heap) (CX : CXT) (k : Nat) (C : Addr) (op : Operator) (f : Addr) (fd : FuncData) (ps : List Str) (sp : Sp) : Prop extends CalB P w K mg base CX k f fd ps sp where
  op : OpC K C f op
structure CalC (P : Program) (w : World) (K : PySem.W.Frag) (mg : Str → Option Value) (base : Heap) (CX : CXT) (k : Nat) (C f : Addr) (fd : FuncData) (ps : List Str) (sp : Sp) : Prop extends CalB P w K mg base CX k f fd ps sp where
  co : StX.CallO K C f

/-! ### the written part named (in comprehensions) -/
section
variable {X : Cx} {e : Expr} {es : List Expr} {f : Str} {pos p : Pos} {ta : TE} {t : TA}
theorem e_f (K : PySem.W.Frag) (he : PE X e ta) (hb : attributeBase e f X.env (eval e X.env) = eval e X.env := by rfl) (h : X.K = K := by rfl) : PE X (.Attribute e f pos) (tFld K ta f) := h ▸ pe_fld he hb
theorem e_cv (K : PySem.W.Frag) (he : PE X e ta) (hb : attributeBase e f X.env (eval e X.env) = eval e X.env := by rfl) (h : X.K = K := by rfl) : PE X (.Attribute e f pos) (ClX.tCVal K ta f) := h ▸ ClX.pe_cval he hb
end

/-! ### len of an own class -/
structure LenC (K : PySem.W.Frag) (C f : Addr) : Prop where
  at_ : PySem.W.findIn K (.ref C) "__len__" = some (some (.ref f))
  fn : PySem.W.isFn K (.ref f) = true
theorem call_lenO {X : Cx} {k : Nat} {C f : Addr} {fd : FuncData} {ps : List Str} {sp : Sp} (c : LenC X.K C f) (F : FnOk X.prog X.w X.K X.mg X.base CX0 k f fd ps sp) (hr : Room (k + 1) X.A) (hb : Binds X.K fd ps []) :
    CallR X (.builtin "len") (fun xs H Q => ∃ a dx fs, xs = [.ref a] ∧ H a = some (.ins C dx fs) ∧ sp [.ref a] H (fun v H' => ∃ n : Int, v = .int n ∧ 0 ≤ n ∧ n < 2 ^ 62 ∧ Q (.int n) H') E0) := by
  intro pins s σ H xs us Q I r h
  obtain ⟨a, dx, fs, rfl, ea, q⟩ := h
  obtain rfl := Vals.ref1 r
  obtain ⟨m, fr⟩ := I.fr
  obtain ⟨mA, O, _⟩ := ins_get I.hok ea
  obtain ⟨od, J, _⟩ := O.look
  refine PySem.W.len_K fr I.ok.mod.kin J c.at_ c.fn ?_
  have hl : ([Value.ref a] ++ []).length = ps.length := (F.len _ _ _ _ q)
  have b := hb s [.ref a] I.kIn hl
  rw [List.append_nil] at b
  refine wpAny_call (codeAny_mono (F.run X.A.in1 X.stack s H ⟨[.ref a], []⟩ [.ref a] [.ref a] _ E0 hr.in1 I.env0.in1 b (.cons rfl .nil) q) fun r s' hq' => ?_)
  cases r with
  | error e => exact False.elim hq'
  | ok fl =>
    cases fl with
    | ret u =>
      obtain ⟨v, H', I3, rv, n, rfl, h0, h1, q3⟩ := I.after hq'
      obtain ⟨t, rfl⟩ := rv
      exact ⟨⟨h0, Int.lt_trans h1 (by decide)⟩, ⟨.int n, H', I3.tok _, ⟨_, rfl⟩, q3⟩⟩
    | next => exact False.elim hq'
    | brk => exact False.elim hq'
    | cont => exact False.elim hq'
structure CalL (P : Program) (w : World) (K : PySem.W.Frag) (mg : Str → Option Value) (base : Heap) (CX : CXT) (k : Nat) (C f : Addr) (fd : FuncData) (ps : List Str) (sp : Sp) : Prop extends CalB P w K mg base CX k f fd ps sp where
  le : LenC K C f
end El

set_option Elab.async false
set_option linter.all false
set_option maxRecDepth 100000
set_option maxHeartbeats 4000000
namespace K12
open PySem PySem.Spec PyProof.Rows L2 El NdefX
def topS (i : Nat) : Stmt := PySem.Challenge.pw_elseput_k12_changes_in_chain.main.body.getD i (.Pass ⟨0, 0, 0, 0⟩)
abbrev s_is_name : Stmt := topS 16
theorem sc_is_name : FnScope ["text", "letter"] ["text"] (defScope s_is_name) := ⟨rfl, rfl, rfl, by decide +kernel, rfl, by decide +kernel, by decide +kernel⟩

abbrev s_in_bound : Stmt := topS 23
theorem sc_in_bound : FnScope ["value"] ["value"] (defScope s_in_bound) := ⟨rfl, rfl, rfl, by decide +kernel, rfl, by decide +kernel, by decide +kernel⟩

abbrev s_check_name : Stmt := topS 24
theorem sc_check_name : FnScope ["text"] ["text"] (defScope s_check_name) := ⟨rfl, rfl, rfl, by decide +kernel, rfl, by decide +kernel, by decide +kernel⟩

abbrev s_check_number : Stmt := topS 25
theorem sc_check_number : FnScope ["value"] ["value"] (defScope s_check_number) := ⟨rfl, rfl, rfl, by decide +kernel, rfl, by decide +kernel, by decide +kernel⟩

abbrev s_followed : Stmt := topS 33
theorem sc_followed : FnScope ["assignment", "later", "field", "deed", "number", "other", "later_deed", "later_number"] ["assignment", "later"] (defScope s_followed) := ⟨rfl, rfl, rfl, by decide +kernel, rfl, by decide +kernel, by decide +kernel⟩

abbrev s__law_state : Stmt := topS 39
theorem sc__law_state : FnScope ["_law_script"] ["_law_script"] (defScope s__law_state) := ⟨rfl, rfl, rfl, by decide +kernel, rfl, by decide +kernel, by decide +kernel⟩

abbrev s__law_draw : Stmt := topS 40
theorem sc__law_draw : FnScope ["_law_state_here", "_law_many", "_law_first", "_law_second", "_law_third", "_law_digit"] ["_law_state_here", "_law_many"] (defScope s__law_draw) := ⟨rfl, rfl, rfl, by decide +kernel, rfl, by decide +kernel, by decide +kernel⟩

abbrev s__law_pick : Stmt := topS 41
theorem sc__law_pick : FnScope ["_law_state_here", "_law_row"] ["_law_state_here", "_law_row"] (defScope s__law_pick) := ⟨rfl, rfl, rfl, by decide +kernel, rfl, by decide +kernel, by decide +kernel⟩

abbrev s__law_mixed : Stmt := topS 42
theorem sc__law_mixed : FnScope ["_law_state_here", "_law_row", "_law_rest", "_law_result", "_law_k", "_law_at"] ["_law_state_here", "_law_row"] (defScope s__law_mixed) := ⟨rfl, rfl, rfl, by decide +kernel, rfl, by decide +kernel, by decide +kernel⟩

abbrev s__law_number : Stmt := topS 43
theorem sc__law_number : FnScope ["_law_state_here", "_law_kind"] ["_law_state_here"] (defScope s__law_number) := ⟨rfl, rfl, rfl, by decide +kernel, rfl, by decide +kernel, by decide +kernel⟩

abbrev s__law_constant : Stmt := topS 44
theorem sc__law_constant : FnScope ["_law_state_here"] ["_law_state_here"] (defScope s__law_constant) := ⟨rfl, rfl, rfl, by decide +kernel, rfl, by decide +kernel, by decide +kernel⟩

abbrev s__law_names : Stmt := topS 45
theorem sc__law_names : FnScope ["_law_state_here", "_law_many", "_law_letters", "_law_style", "_law_shift", "_law_code", "_law_spot", "_law_base", "_law_k", "_law_reserved", "_law_result", "_law_word"] ["_law_state_here", "_law_many"] (defScope s__law_names) := ⟨rfl, rfl, rfl, by decide +kernel, rfl, by decide +kernel, by decide +kernel⟩

abbrev s__law_is_int : Stmt := topS 46
theorem sc__law_is_int : FnScope ["_law_thing"] ["_law_thing"] (defScope s__law_is_int) := ⟨rfl, rfl, rfl, by decide +kernel, rfl, by decide +kernel, by decide +kernel⟩

abbrev s__law_same : Stmt := topS 47
theorem sc__law_same : FnScope ["_law_actual", "_law_due", "_law_k", "_law_key"] ["_law_actual", "_law_due"] (defScope s__law_same) := ⟨rfl, rfl, rfl, by decide +kernel, rfl, by decide +kernel, by decide +kernel⟩

abbrev s__law_changed : Stmt := topS 48
theorem sc__law_changed : FnScope ["_law_rows", "_law_content", "_law_result", "_law_row"] ["_law_rows", "_law_content"] (defScope s__law_changed) := ⟨rfl, rfl, rfl, by decide +kernel, rfl, by decide +kernel, by decide +kernel⟩

abbrev s__law_change : Stmt := topS 49
theorem sc__law_change : FnScope ["_law_rows", "_law_result", "_law_row"] ["_law_rows"] (defScope s__law_change) := ⟨rfl, rfl, rfl, by decide +kernel, rfl, by decide +kernel, by decide +kernel⟩

abbrev s__law_some_rows : Stmt := topS 50
theorem sc__law_some_rows : FnScope ["_law_state_here", "_law_fields", "_law_rows", "_law_field"] ["_law_state_here", "_law_fields"] (defScope s__law_some_rows) := ⟨rfl, rfl, rfl, by decide +kernel, rfl, by decide +kernel, by decide +kernel⟩

abbrev s__law_chained : Stmt := topS 51
theorem sc__law_chained : FnScope ["_law_first", "_law_second", "_law_result", "_law_row", "_law_names_here", "_law_joined", "_law_other"] ["_law_first", "_law_second"] (defScope s__law_chained) := ⟨rfl, rfl, rfl, by decide +kernel, rfl, by decide +kernel, by decide +kernel⟩

abbrev s__law_do : Stmt := topS 52
theorem sc__law_do : FnScope ["_law_one", "_law_other", "e"] ["_law_one", "_law_other"] (defScope s__law_do) := ⟨rfl, rfl, rfl, by decide +kernel, rfl, by decide +kernel, by decide +kernel⟩

abbrev s__law_joins : Stmt := topS 53
theorem sc__law_joins : FnScope ["_law_one", "_law_other", "_law_first", "_law_second", "_law_content", "_law_rows", "_law_due"] ["_law_one", "_law_other", "_law_first", "_law_second", "_law_content"] (defScope s__law_joins) := ⟨rfl, rfl, rfl, by decide +kernel, rfl, by decide +kernel, by decide +kernel⟩

abbrev s_law : Stmt := topS 54
theorem sc_law : FnScope ["_law_script", "_law_state_here", "_law_names_here", "_law_content", "_law_field", "_law_lists", "_law_word", "_law_made", "_law_i", "_law_j", "_law_rows"] ["_law_script"] (defScope s_law) := ⟨rfl, rfl, rfl, by decide +kernel, rfl, by decide +kernel, by decide +kernel⟩

abbrev s_Change___init__ : Stmt := mthS (topS 32) 1
theorem sc_Change___init__ : FnScope ["self", "assignments"] ["self", "assignments"] (defScope s_Change___init__) := ⟨rfl, rfl, rfl, by decide +kernel, rfl, by decide +kernel, by decide +kernel⟩

abbrev s_Change_none : Stmt := mthS (topS 32) 2
theorem sc_Change_none : FnScope [] [] (defScope s_Change_none) := ⟨rfl, rfl, rfl, by decide +kernel, rfl, by decide +kernel, by decide +kernel⟩

abbrev s_Change_adding : Stmt := mthS (topS 32) 3
theorem sc_Change_adding : FnScope ["field", "number"] ["field", "number"] (defScope s_Change_adding) := ⟨rfl, rfl, rfl, by decide +kernel, rfl, by decide +kernel, by decide +kernel⟩

abbrev s_Change_setting : Stmt := mthS (topS 32) 4
theorem sc_Change_setting : FnScope ["field", "number"] ["field", "number"] (defScope s_Change_setting) := ⟨rfl, rfl, rfl, by decide +kernel, rfl, by decide +kernel, by decide +kernel⟩

abbrev s_Change_assigned : Stmt := mthS (topS 32) 6
theorem sc_Change_assigned : FnScope ["self", "part"] ["self"] (defScope s_Change_assigned) := ⟨rfl, rfl, rfl, by decide +kernel, rfl, by decide +kernel, by decide +kernel⟩

abbrev s_Change___call__ : Stmt := mthS (topS 32) 8
theorem sc_Change___call__ : FnScope ["self", "content", "field", "changed", "deed", "number"] ["self", "content"] (defScope s_Change___call__) := ⟨rfl, rfl, rfl, by decide +kernel, rfl, by decide +kernel, by decide +kernel⟩

abbrev s_Change___len__ : Stmt := mthS (topS 32) 9
theorem sc_Change___len__ : FnScope ["self"] ["self"] (defScope s_Change___len__) := ⟨rfl, rfl, rfl, by decide +kernel, rfl, by decide +kernel, by decide +kernel⟩

abbrev s_Change___rshift__ : Stmt := mthS (topS 32) 10
theorem sc_Change___rshift__ : FnScope ["self", "other", "both", "new", "part"] ["self", "other"] (defScope s_Change___rshift__) := ⟨rfl, rfl, rfl, by decide +kernel, rfl, by decide +kernel, by decide +kernel⟩

abbrev s_BadName : Stmt := mthS (topS 3) 0
theorem sc_BadName : NdefX.NScope ["self", "name", "__class__"] ["self", "name"] ["__class__"] (defScope s_BadName) := NdefX.nscope_by (by decide +kernel)
abbrev s_BadNumber : Stmt := mthS (topS 4) 0
theorem sc_BadNumber : NdefX.NScope ["self", "value", "__class__"] ["self", "value"] ["__class__"] (defScope s_BadNumber) := NdefX.nscope_by (by decide +kernel)
abbrev s_BadText : Stmt := mthS (topS 5) 0
theorem sc_BadText : NdefX.NScope ["self", "line", "column", "__class__"] ["self", "line", "column"] ["__class__"] (defScope s_BadText) := NdefX.nscope_by (by decide +kernel)
abbrev s_TooLarge : Stmt := mthS (topS 6) 0
theorem sc_TooLarge : NdefX.NScope ["self", "most", "__class__"] ["self", "most"] ["__class__"] (defScope s_TooLarge) := NdefX.nscope_by (by decide +kernel)
abbrev s_UnknownName : Stmt := mthS (topS 7) 0
theorem sc_UnknownName : NdefX.NScope ["self", "name", "__class__"] ["self", "name"] ["__class__"] (defScope s_UnknownName) := NdefX.nscope_by (by decide +kernel)
section
variable {P : Program} {w : World} {K : PySem.W.Frag} {mg : Str → Option Value} {base : Heap}
variable {t_BOUND t_LETTERS t_LONGEST_NAME : Tok} {a_RESERVED a_BadName a_BadNumber a_Change a_ElseputError a_TooLarge a_UnknownField : Addr}
structure Gs (K : PySem.W.Frag) (mg : Str → Option Value) (t_BOUND t_LETTERS t_LONGEST_NAME : Tok) (a_RESERVED a_BadName a_BadNumber a_Change a_ElseputError a_TooLarge a_UnknownField : Addr) : Prop where
  z_ValueError : mg "ValueError" = none
  z_all : mg "all" = none
  z_bool : mg "bool" = none
  z_dict : mg "dict" = none
  z_int : mg "int" = none
  z_isinstance : mg "isinstance" = none
  z_len : mg "len" = none
  z_list : mg "list" = none
  z_property : mg "property" = none
  z_range : mg "range" = none
  z_staticmethod : mg "staticmethod" = none
  z_str : mg "str" = none
  z_super : mg "super" = none
  z_tuple : mg "tuple" = none
  g_BOUND : mg "BOUND" = some (.int 1000000000000000000000000000000 t_BOUND)
  g_LETTERS : mg "LETTERS" = some (.str "abcdefghijklmnopqrstuvwxyz" t_LETTERS)
  g_LONGEST_NAME : mg "LONGEST_NAME" = some (.int 12 t_LONGEST_NAME)
  g_RESERVED : mg "RESERVED" = some (.ref a_RESERVED)
  q_RESERVED : ∀ H, SqT K H a_RESERVED [(.str "always"), (.str "never"), (.str "and"), (.str "or"), (.str "not"), (.str "when"), (.str "add"), (.str "set"), (.str "change"), (.str "tell"), (.str "refuse"), (.str "take"), (.str "look"), (.str "free"), (.str "lock"), (.str "keep"), (.str "keys"), (.str "fields")]
  g_BadName : mg "BadName" = some (.ref a_BadName)
  n_BadName : PySem.W.nsIn K mainGlobals "BadName" = some (some (.ref a_BadName))
  x_BadName : ExV K a_BadName ["name"]
  g_BadNumber : mg "BadNumber" = some (.ref a_BadNumber)
  n_BadNumber : PySem.W.nsIn K mainGlobals "BadNumber" = some (some (.ref a_BadNumber))
  x_BadNumber : ExV K a_BadNumber ["value"]
  g_Change : mg "Change" = some (.ref a_Change)
  n_Change : PySem.W.nsIn K mainGlobals "Change" = some (some (.ref a_Change))
  g_ElseputError : mg "ElseputError" = some (.ref a_ElseputError)
  n_ElseputError : PySem.W.nsIn K mainGlobals "ElseputError" = some (some (.ref a_ElseputError))
  g_TooLarge : mg "TooLarge" = some (.ref a_TooLarge)
  n_TooLarge : PySem.W.nsIn K mainGlobals "TooLarge" = some (some (.ref a_TooLarge))
  x_TooLarge : ExV K a_TooLarge ["most"]
  g_UnknownField : mg "UnknownField" = some (.ref a_UnknownField)
  n_UnknownField : PySem.W.nsIn K mainGlobals "UnknownField" = some (some (.ref a_UnknownField))
  cl_Change : Cls K a_Change
  na_Change_assignments : NoAttr K a_Change "assignments"
  cv_Change_MOST : ∃ u, ClX.CVal K a_Change (.type "type") "MOST" (.int 3) u
  rd_Change : ClX.CRead K a_Change (.type "type")
  m_TooLarge_ElseputError : PySem.W.exmOne K (.ref a_TooLarge) (.ref a_ElseputError) = some true
  k_TooLarge_TooLarge : PySem.W.kitOne K (.ref a_TooLarge) (.ref a_TooLarge) = some true
  k_TooLarge_ValueError : PySem.W.kitOne K (.ref a_TooLarge) (.type "ValueError") = some true
  k_TooLarge_BadNumber : PySem.W.kitOne K (.ref a_TooLarge) (.ref a_BadNumber) = some false
/-! ### the script's state -/
def stv (scr : Addr) (i v m c : Int) : List V := [.ref scr, .int i, .int v, .int m, .int c]
def DrAt (H : Hp) (st scr : Addr) : Prop := ∃ (ns : List Int) (i v m c : Int), H st = some (.lst (stv scr i v m c)) ∧ H scr = some (.lst (ns.map V.int)) ∧ ns.length ≤ 63 ∧ 0 ≤ i
theorem DrAt.ne {H : Hp} {st scr : Addr} {ns : List Int} {i v m c : Int} (h : H st = some (.lst (stv scr i v m c))) (h2 : H scr = some (.lst (ns.map V.int))) : scr ≠ st := by
  refine ne_of h2 h fun e => ?_
  injection e with e
  cases ns with
  | nil => simp [stv] at e
  | cons a r => simp [stv] at e
theorem DrAt.upd {H : Hp} {st scr : Addr} {ns : List Int} {i v m c i' v' m' c' : Int} (h : H st = some (.lst (stv scr i v m c))) (h2 : H scr = some (.lst (ns.map V.int))) (hl : ns.length ≤ 63) (h0 : 0 ≤ i') : DrAt (upd H st (.lst (stv scr i' v' m' c'))) st scr :=
  ⟨ns, i', v', m', c', upd_same, by rw [upd_ne (DrAt.ne h h2)]; exact h2, hl, h0⟩
theorem upd_id {H : Hp} {a : Addr} {o : HO} (h : H a = some o) : upd H a o = H := by
  funext b
  unfold L2.upd
  split
  · rename_i e; rw [e, h]
  · rfl
theorem DrAt.lst {H : Hp} {st scr : Addr} (h : DrAt H st scr) : ∃ l, H st = some (.lst l) := by
  obtain ⟨ns, i, v, m, c, h, _⟩ := h
  exact ⟨_, h⟩
theorem DrAt.new {H H' : Hp} {st scr : Addr} (h : DrAt H st scr) (s : Same H H') : DrAt H' st scr := by
  obtain ⟨ns, i, v, m, c, h1, h2, h3⟩ := h
  exact ⟨ns, i, v, m, c, s _ _ h1, s _ _ h2, h3⟩
theorem DrAt.at {H : Hp} {st scr p : Addr} {o : HO} (h : DrAt H st scr) (h1 : p ≠ st) (h2 : p ≠ scr) : DrAt (L2.upd H p o) st scr := by
  obtain ⟨ns, i, v, m, c, e1, e2, h3⟩ := h
  exact ⟨ns, i, v, m, c, by rw [upd_ne h1.symm]; exact e1, by rw [upd_ne h2.symm]; exact e2, h3⟩
theorem same_new {H : Hp} {p : Addr} {o : HO} (h : H p = none) : Same H (upd H p o) := fun b u q => by rw [upd_ne (ne_of_none q h)]; exact q
theorem free_new {H : Hp} {p q : Addr} {o : HO} (h : upd H p o q = none) : H q = none := by
  unfold L2.upd at h
  split at h
  · cases h
  · exact h
theorem new_ne {H : Hp} {p q : Addr} {o : HO} (h : upd H p o q = none) : q ≠ p := fun e => by rw [e, upd_same] at h; cases h
theorem len_add (a b : Str) : (a ++ b).length = a.length + b.length := by
  show (a.cps ++ b.cps).size = _
  rw [Array.size_append]
  rfl
theorem cps_add (a b : Str) : (a ++ b).cps.toList = a.cps.toList ++ b.cps.toList := by
  show (a.cps ++ b.cps).toList = _
  rw [Array.toList_append]
theorem len_cps (z : Str) : z.cps.toList.length = z.length := Array.length_toList
theorem line_of {n : Nat} (h : n ≤ 100000) : n ≤ sizeLine := Nat.le_trans h (by decide)
theorem line_lt {n : Nat} (h : n < 100000) : n < sizeLine := Nat.lt_of_lt_of_le h (by decide)
/-- all that stood stands, st's own numbers aside -/
def Bt (st : Addr) (H H' : Hp) : Prop := ∀ b o, b ≠ st → H b = some o → H' b = some o
theorem Bt.refl (st : Addr) (H : Hp) : Bt st H H := fun _ _ _ h => h
theorem Bt.trans {st : Addr} {H H1 H2 : Hp} (a : Bt st H H1) (b : Bt st H1 H2) : Bt st H H2 := fun c o n h => b c o n (a c o n h)
theorem Bt.same {st : Addr} {H H' : Hp} (s : Same H H') : Bt st H H' := fun b o _ h => s b o h
theorem Bt.st {st : Addr} {H : Hp} {o : HO} : Bt st H (upd H st o) := fun b u n h => by rw [upd_ne n]; exact h
theorem Bt.free {st : Addr} {H H' : Hp} (s : Bt st H H') {l : Addr} (n : l ≠ st) (h : H' l = none) : H l = none := by
  cases q : H l with
  | none => rfl
  | some o => rw [s l o n q] at h; cases h
theorem DrAt.ne_new {H : Hp} {st scr p : Addr} (h : DrAt H st scr) (n : H p = none) : p ≠ st := by
  obtain ⟨l, e⟩ := h.lst
  exact (ne_of_none e n).symm

theorem DrAt.ne_scr {H : Hp} {st scr p : Addr} (h : DrAt H st scr) (n : H p = none) : p ≠ scr := by
  obtain ⟨ns, i, v, m, c, e1, e2, h3⟩ := h
  exact (ne_of_none e2 n).symm

/-! ### is_name -/
abbrev letters : Str := "abcdefghijklmnopqrstuvwxyz"
abbrev resv : List V := [.str "always", .str "never", .str "and", .str "or", .str "not", .str "when", .str "add", .str "set", .str "change", .str "tell", .str "refuse", .str "take", .str "look", .str "free", .str "lock", .str "keep", .str "keys", .str "fields"]
def isName (z : Str) : Bool := if (decide ((z.length : Int) < 1) || decide ((12 : Int) < z.length) || inV (.str z) resv) = true then false else z.cps.toList.all fun c => decide (c ∈ letters.cps.toList)
def sp_is_name (K : PySem.W.Frag) : Sp := fun vs H Q _ => ∃ z : Str, vs = [.str z] ∧ z.length ≤ 1000 ∧ ∀ H', Same H H' → Q (.bl (isName z)) H'
theorem len_is_name {vs : List V} {H : Hp} {Q : VK} {E : XK} (h : sp_is_name K vs H Q E) : vs.length = 1 := by
  obtain ⟨_, rfl, _⟩ := h
  rfl
theorem ok_is_name {f : Addr} {fd : FuncData} (F : Fun K "is_name" "is_name" s_is_name f fd) (T : Gs K mg t_BOUND t_LETTERS t_LONGEST_NAME a_RESERVED a_BadName a_BadNumber a_Change a_ElseputError a_TooLarge a_UnknownField) : FnOk P w K mg base CX0 1 f fd ["text"] (sp_is_name K) := by
  refine F.ok sc_is_name (fun vs H Q E h => len_is_name h) (fun cdv A outer s H vs Q E hr h => ?_)
  obtain ⟨z, rfl, h0, q⟩ := h
  refine ⟨_, (pss_cons (ps_if (PW.pt (pw_or (pt_c op_ltM (pe_callB (lenK K) (by rfl) T.z_len PySem.boot_len (pa_cons (v_ 0) pa_nil)) pe_int) (pw_or (pt_c op_gtM (pe_callB (lenK K) (by rfl) T.z_len PySem.boot_len (pa_cons (v_ 0) pa_nil)) (pe_glob (v := .int 12) rfl T.g_LONGEST_NAME ⟨_, rfl⟩)) (pw_or1 (pt_c (inK K) (v_ 0) (pe_glob (v := .ref a_RESERVED) rfl T.g_RESERVED rfl)))))) (pss_one (ps_ret pe_bl)) pss_nil) (pss_one (ps_ret (pe_callB (allK K rfl) (by rfl) T.z_all (by decide +kernel) (pa_cons (pe_lc (own := [("letter", 1)]) (g := gName 1) (by rfl) sc_is_name.nd (pi_str (v_ 0)) (blkOk_by (N := ["text", "letter"]) (sc := defScope s_is_name) (by decide +kernel)) (fun _ _ _ _ _ => pg_name (i := 1) sc_is_name.nd rfl (Or.inl rfl)) (fun _ _ _ _ _ => pts_nil) (fun _ _ _ _ _ => (pe_c (inK K) (v_ 1) (pe_glob (v := .str "abcdefghijklmnopqrstuvwxyz") rfl T.g_LETTERS ⟨_, rfl⟩)))) pa_nil))))), ?_⟩
  refine ⟨line_of (by omega), ?_⟩
  have no : ∀ c : Bool, (decide ((z.length : Int) < 1) || decide ((12 : Int) < z.length) || inV (.str z) resv) = c → isName z = if c = true then false else z.cps.toList.all fun c => decide (c ∈ letters.cps.toList) := fun c e => by
    rw [← e]; rfl
  refine ite2 (fun e => ?_) (fun e => ?_)
  · have := q H (Same.refl H)
    rw [no true (by rw [show decide ((z.length : Int) < 1) = true from e]; rfl)] at this
    exact this
  refine ⟨line_of (by omega), ?_⟩
  refine ite2 (fun e1 => ?_) (fun e1 => ?_)
  · have := q H (Same.refl H)
    rw [no true (by rw [show decide ((12 : Int) < z.length) = true from e1, Bool.or_true]; rfl)] at this
    exact this
  refine ⟨_, .inr (T.q_RESERVED _), rfl, rfl, ?_⟩
  refine ite2 (fun e2 => ?_) (fun e2 => ?_)
  · have := q H (Same.refl H)
    rw [no true (by rw [show inV (.str z) resv = true from e2, Bool.or_true])] at this
    exact this
  have en : isName z = z.cps.toList.all fun c => decide (c ∈ letters.cps.toList) := by
    rw [no false (by rw [show decide ((z.length : Int) < 1) = false from Bool.eq_false_iff.mpr e, show decide ((12 : Int) < z.length) = false from Bool.eq_false_iff.mpr e1, show inV (.str z) resv = false from Bool.eq_false_iff.mpr e2]; rfl)]
    rfl
  refine ⟨z, rfl, fun D nD => lc_it walk_str (fun i H' => H' = upd H D (.lst (((z.cps.toList.take i).map fun c => decide (c ∈ letters.cps.toList)).map V.bl))) rfl (fun _ _ _ _ => True.intro) ?_ ?_⟩
  · rintro i x H1 H2 hi rfl ⟨rfl, c, hc, rfl⟩
    refine ⟨rfl, ?_⟩
    refine ⟨c, rfl, _, upd_same, ?_, ?_⟩
    · rw [List.length_map, List.length_map, List.length_take]
      have : z.cps.size = z.length := rfl
      exact small1000 (by omega)
    · rw [upd_upd]
      have e : z.cps.toList.take (i + 1) = z.cps.toList.take i ++ [c] := by
        rw [List.take_add_one, Array.getElem?_toList, hc]
        rfl
      rw [e, List.map_append, List.map_append]
      rfl
  · rintro H1 rfl
    rw [show z.cps.size = z.cps.toList.length from (Array.length_toList).symm, List.take_length]
    refine ⟨_, _, rfl, SqL.of upd_same, ?_⟩
    have := q _ (same_new nD (o := .lst ((z.cps.toList.map fun c => decide (c ∈ letters.cps.toList)).map V.bl)))
    rw [en] at this
    rw [List.all_map]
    exact this


end
section
variable {P : Program} {w : World} {K : PySem.W.Frag} {mg : Str → Option Value} {base : Heap}
variable {t_BOUND t_LETTERS t_LONGEST_NAME : Tok} {a_RESERVED a_BadName a_BadNumber a_Change a_ElseputError a_TooLarge a_UnknownField : Addr}
/-! ### checks -/
def sp_in_bound (K : PySem.W.Frag) : Sp := fun vs H Q _ => ∃ i : Int, vs = [.int i] ∧ -1000000000000000000000000000000 ≤ i ∧ i ≤ 1000000000000000000000000000000 ∧ Q (.bl true) H
theorem len_in_bound {vs : List V} {H : Hp} {Q : VK} {E : XK} (h : sp_in_bound K vs H Q E) : vs.length = 1 := by
  obtain ⟨_, rfl, _⟩ := h
  rfl
theorem ok_in_bound {f : Addr} {fd : FuncData} (F : Fun K "in_bound" "in_bound" s_in_bound f fd) (T : Gs K mg t_BOUND t_LETTERS t_LONGEST_NAME a_RESERVED a_BadName a_BadNumber a_Change a_ElseputError a_TooLarge a_UnknownField) : FnOk P w K mg base CX0 1 f fd ["value"] (sp_in_bound K) := by
  refine F.ok sc_in_bound (fun vs H Q E h => len_in_bound h) (fun cdv A outer s H vs Q E hr h => ?_)
  obtain ⟨i, rfl, h0, h1, q⟩ := h
  refine ⟨_, (pss_one (ps_ret (pe_chain op_leM op_leM (pe_un un_negM (pe_glob (v := .int 1000000000000000000000000000000) rfl T.g_BOUND ⟨_, rfl⟩)) (v_ 0) (pe_glob (v := .int 1000000000000000000000000000000) rfl T.g_BOUND ⟨_, rfl⟩)))), ?_⟩
  refine ⟨_, rfl, ?_⟩
  refine ite2 (fun _ => ?_) (fun e => absurd (decide_eq_true (show (-1000000000000000000000000000000 : Int) ≤ i from h0)) e)
  have e : decide (i ≤ 1000000000000000000000000000000) = true := decide_eq_true h1
  rw [← e] at q
  exact q
def sp_check_name (K : PySem.W.Frag) : Sp := fun vs H Q _ => ∃ z : Str, vs = [.str z] ∧ z.length ≤ 1000 ∧ isName z = true ∧ ∀ H', Same H H' → Q .non H'
theorem len_check_name {vs : List V} {H : Hp} {Q : VK} {E : XK} (h : sp_check_name K vs H Q E) : vs.length = 1 := by
  obtain ⟨_, rfl, _⟩ := h
  rfl
theorem ok_check_name {f : Addr} {fd : FuncData} {f_is_name : Addr} {fd_is_name : FuncData} (F : Fun K "check_name" "check_name" s_check_name f fd) (T : Gs K mg t_BOUND t_LETTERS t_LONGEST_NAME a_RESERVED a_BadName a_BadNumber a_Change a_ElseputError a_TooLarge a_UnknownField) (c_is_name : Cal P w K mg base CX0 1 "is_name" f_is_name fd_is_name ["text"] (sp_is_name K)) : FnOk P w K mg base CX0 3 f fd ["text"] (sp_check_name K) := by
  refine F.ok sc_check_name (fun vs H Q E h => len_check_name h) (fun cdv A outer s H vs Q E hr h => ?_)
  obtain ⟨z, rfl, h0, h1, q⟩ := h
  refine ⟨_, (pss_one (ps_if (pt_not (pt_t K (pe_call c_is_name.G (hr.mono (by first | decide | omega)) rfl c_is_name.m c_is_name.kp c_is_name.b .nil pass0 (pa_cons (v_ 0) pa_nil)))) (pss_one ps_never) pss_nil)), ?_⟩
  refine ⟨z, rfl, h0, fun H' s => ?_⟩
  rw [h1]
  exact q H' s
def sp_check_number (K : PySem.W.Frag) : Sp := fun vs H Q _ => ∃ i : Int, vs = [.int i] ∧ -1000000000000000000000000000000 ≤ i ∧ i ≤ 1000000000000000000000000000000 ∧ Q .non H
theorem len_check_number {vs : List V} {H : Hp} {Q : VK} {E : XK} (h : sp_check_number K vs H Q E) : vs.length = 1 := by
  obtain ⟨_, rfl, _⟩ := h
  rfl
theorem ok_check_number {f : Addr} {fd : FuncData} {f_in_bound : Addr} {fd_in_bound : FuncData} (F : Fun K "check_number" "check_number" s_check_number f fd) (T : Gs K mg t_BOUND t_LETTERS t_LONGEST_NAME a_RESERVED a_BadName a_BadNumber a_Change a_ElseputError a_TooLarge a_UnknownField) (c_in_bound : Cal P w K mg base CX0 1 "in_bound" f_in_bound fd_in_bound ["value"] (sp_in_bound K)) : FnOk P w K mg base CX0 3 f fd ["value"] (sp_check_number K) := by
  refine F.ok sc_check_number (fun vs H Q E h => len_check_number h) (fun cdv A outer s H vs Q E hr h => ?_)
  obtain ⟨i, rfl, h0, h1, q⟩ := h
  refine ⟨_, (pss_one (ps_if (pt_not (pt_t K (pe_call c_in_bound.G (hr.mono (by first | decide | omega)) rfl c_in_bound.m c_in_bound.kp c_in_bound.b .nil pass0 (pa_cons (v_ 0) pa_nil)))) (pss_one ps_never) pss_nil)), ?_⟩
  exact ⟨i, rfl, h0, h1, q⟩
/-! ### changes -/
structure Rw where
  f : Str
  add : Bool
  n : Int
def deed (b : Bool) : Str := if b then "add" else "set"
def RowAt (H : Hp) (r : Addr) (x : Rw) : Prop := H r = some (.tup [.str x.f, .str (deed x.add), .int x.n])
def RowsL (H : Hp) : List Addr → List Rw → Prop
  | [], [] => True
  | r :: rs, x :: xs => RowAt H r x ∧ RowsL H rs xs
  | _, _ => False
theorem RowsL.same {H H' : Hp} (s : Same H H') : ∀ {rs : List Addr} {xs : List Rw}, RowsL H rs xs → RowsL H' rs xs
  | [], [], _ => trivial
  | _ :: _, _ :: _, ⟨h, t⟩ => ⟨s _ _ h, RowsL.same s t⟩
theorem RowsL.len {H : Hp} : ∀ {rs : List Addr} {xs : List Rw}, RowsL H rs xs → rs.length = xs.length
  | [], [], _ => rfl
  | _ :: _, _ :: _, ⟨_, h⟩ => by rw [List.length_cons, List.length_cons, h.len]
theorem RowsL.app {H : Hp} : ∀ {rs ts : List Addr} {xs ys : List Rw}, RowsL H rs xs → RowsL H ts ys → RowsL H (rs ++ ts) (xs ++ ys)
  | [], _, [], _, _, h => h
  | _ :: _, _, _ :: _, _, ⟨h1, h⟩, h2 => ⟨h1, RowsL.app h h2⟩
theorem RowsL.get {H : Hp} : ∀ {rs : List Addr} {xs : List Rw}, RowsL H rs xs → ∀ {i : Nat} {r : Addr}, rs[i]? = some r → ∃ x, xs[i]? = some x ∧ RowAt H r x
  | _ :: _, x :: _, ⟨h, t⟩, 0, r, e => by simp at e; subst e; exact ⟨x, rfl, h⟩
  | _ :: _, _ :: _, ⟨_, t⟩, i + 1, r, e => by simpa using t.get (i := i) (r := r) (by simpa using e)
/-- the change whose assignments are xs -/
def ChAt (K : PySem.W.Frag) (H : Hp) (a : Addr) (xs : List Rw) : Prop := ∃ (C dx t : Addr) (rs : List Addr), PySem.W.nsIn K mainGlobals "Change" = some (some (.ref C)) ∧ H a = some (.ins C dx [("assignments", .ref t)]) ∧ H t = some (.tup (rs.map V.ref)) ∧ RowsL H rs xs
theorem ChAt.same {H H' : Hp} {a : Addr} {xs : List Rw} (h : ChAt K H a xs) (s : Same H H') : ChAt K H' a xs := by
  obtain ⟨C, dx, t, rs, h1, h2, h3, h4⟩ := h
  exact ⟨C, dx, t, rs, h1, s _ _ h2, s _ _ h3, h4.same s⟩
def sp_Change___init__ (K : PySem.W.Frag) : Sp := fun vs H Q _ => ∃ (x p C dx : Addr) (xs : List V), vs = [.ref x, .ref p] ∧ PySem.W.nsIn K mainGlobals "Change" = some (some (.ref C)) ∧ H x = some (.ins C dx []) ∧ (H p = some (.lst xs) ∨ H p = some (.tup xs)) ∧
  ∀ (H' : Hp) (t : Addr), (∀ b o, b ≠ x → H b = some o → H' b = some o) → H' x = some (.ins C dx [("assignments", .ref t)]) → H' t = some (.tup xs) → Q .non H'
theorem len_Change___init__ {vs : List V} {H : Hp} {Q : VK} {E : XK} (h : sp_Change___init__ K vs H Q E) : vs.length = 2 := by
  obtain ⟨_, _, _, _, _, rfl, _⟩ := h
  rfl
theorem ok_Change___init__ {f : Addr} {fd : FuncData} (F : Fun K "__init__" "Change.__init__" s_Change___init__ f fd) (T : Gs K mg t_BOUND t_LETTERS t_LONGEST_NAME a_RESERVED a_BadName a_BadNumber a_Change a_ElseputError a_TooLarge a_UnknownField) : FnOk P w K mg base CX0 1 f fd ["self", "assignments"] (sp_Change___init__ K) := by
  refine F.ok sc_Change___init__ (fun vs H Q E h => len_Change___init__ h) (fun cdv A outer s H vs Q E hr h => ?_)
  obtain ⟨x, p, C, dx, xs, rfl, hC, hx, hp, q⟩ := h
  cases hC.symm.trans T.n_Change
  refine ⟨_, (pss_one (ps_fld (v_ 0) (pe_callTy (tupleK K) (by rfl) T.z_tuple (by decide +kernel) (pa_cons (v_ 1) pa_nil)) (by rfl))), ?_⟩
  rcases hp with hp | hp
  · refine ⟨p, xs, rfl, .inl ⟨SqL.of hp, fun l nl => ?_⟩⟩
    have lx : x ≠ l := ne_of_none hx nl
    refine ⟨x, a_Change, dx, [], rfl, same_new nl _ _ hx, T.cl_Change, T.na_Change_assignments, by decide, ?_⟩
    exact q _ l (fun b o nb hb => by rw [upd_ne nb]; exact same_new nl _ _ hb) upd_same (by rw [upd_ne lx.symm, upd_same])
  · refine ⟨p, xs, rfl, .inr ⟨SqT.of hp, ?_⟩⟩
    have lx : p ≠ x := fun e => by rw [e, hx] at hp; cases hp
    refine ⟨x, a_Change, dx, [], rfl, hx, T.cl_Change, T.na_Change_assignments, by decide, ?_⟩
    exact q _ p (fun b o nb hb => by rw [upd_ne nb]; exact hb) upd_same (by rw [upd_ne lx]; exact hp)
/-- what a made change is -/
def spMade (K : PySem.W.Frag) (H : Hp) (xs : List Rw) (Q : VK) : Prop := ∀ (H' : Hp) (a : Addr), Same H H' → H a = none → ChAt K H' a xs → Q (.ref a) H'
theorem made {K : PySem.W.Frag} {H H1 : Hp} {C p : Addr} {rs : List Addr} {xs : List Rw} {Q : VK} {E : XK} (hC : PySem.W.nsIn K mainGlobals "Change" = some (some (.ref C))) (s : Same H H1) (hp : H1 p = some (.lst (rs.map V.ref)) ∨ H1 p = some (.tup (rs.map V.ref))) (hr : RowsL H1 rs xs) (q : spMade K H xs Q) :
    ∀ x dx, H1 x = none → H1 dx = none → dx ≠ x → sp_Change___init__ K (.ref x :: ([.ref p] ++ [])) (upd (upd H1 dx (.own x)) x (.ins C dx [])) (fun v H2 => v = .non ∧ Q (.ref x) H2) E := by
  intro x dx nx nd ne
  have sm : Same H1 (upd (upd H1 dx (.own x)) x (.ins C dx [])) := fun b o hb => by
    rw [upd_ne (ne_of_none hb nx), upd_ne (ne_of_none hb nd)]
    exact hb
  refine ⟨x, p, C, dx, rs.map V.ref, rfl, hC, upd_same, hp.imp (sm _ _) (sm _ _), fun H' t k e1 e2 => ⟨rfl, ?_⟩⟩
  have s2 : Same H1 H' := fun b o hb => k b o (ne_of_none hb nx) (sm _ _ hb)
  exact q H' x (s.trans s2) (Same.free s nx) ⟨C, dx, t, rs, hC, e1, e2, hr.same s2⟩
def sp_Change_none (K : PySem.W.Frag) : Sp := fun vs H Q _ => vs = [] ∧ spMade K H [] Q
theorem len_Change_none {vs : List V} {H : Hp} {Q : VK} {E : XK} (h : sp_Change_none K vs H Q E) : vs.length = 0 := by
  obtain ⟨rfl, _⟩ := h
  rfl
theorem ok_Change_none {f : Addr} {fd : FuncData} {f_Change___init__ : Addr} {fd_Change___init__ : FuncData} (F : Fun K "none" "Change.none" s_Change_none f fd) (T : Gs K mg t_BOUND t_LETTERS t_LONGEST_NAME a_RESERVED a_BadName a_BadNumber a_Change a_ElseputError a_TooLarge a_UnknownField) (c_Change___init__ : CalI P w K mg base CX0 1 "Change" a_Change f_Change___init__ fd_Change___init__ ["self", "assignments"] (sp_Change___init__ K)) : FnOk P w K mg base CX0 3 f fd [] (sp_Change_none K) := by
  refine F.ok sc_Change_none (fun vs H Q E h => len_Change_none h) (fun cdv A outer s H vs Q E hr h => ?_)
  obtain ⟨rfl, q⟩ := h
  refine ⟨_, (pss_one (ps_ret (pe_make c_Change___init__.mkc c_Change___init__.G (hr.mono (by first | decide | omega)) rfl c_Change___init__.m c_Change___init__.b .nil pass0 (pa_cons (pe_tup pa_nil) pa_nil)))), ?_⟩
  refine ⟨Nat.zero_le _, fun p np => ?_⟩
  exact made (rs := []) (xs := []) T.n_Change (same_new np) (.inr upd_same) trivial q
def sp_Change_adding (K : PySem.W.Frag) : Sp := fun vs H Q _ => ∃ (z : Str) (i : Int), vs = [.str z, .int i] ∧ z.length ≤ 1000 ∧ isName z = true ∧ -1000000000000000000000000000000 ≤ i ∧ i ≤ 1000000000000000000000000000000 ∧ spMade K H [⟨z, true, i⟩] Q
theorem len_Change_adding {vs : List V} {H : Hp} {Q : VK} {E : XK} (h : sp_Change_adding K vs H Q E) : vs.length = 2 := by
  obtain ⟨_, _, rfl, _⟩ := h
  rfl
theorem ok_Change_adding {f : Addr} {fd : FuncData} {f_check_name : Addr} {fd_check_name : FuncData} {f_check_number : Addr} {fd_check_number : FuncData} {f_Change___init__ : Addr} {fd_Change___init__ : FuncData} (F : Fun K "adding" "Change.adding" s_Change_adding f fd) (T : Gs K mg t_BOUND t_LETTERS t_LONGEST_NAME a_RESERVED a_BadName a_BadNumber a_Change a_ElseputError a_TooLarge a_UnknownField) (c_check_name : Cal P w K mg base CX0 3 "check_name" f_check_name fd_check_name ["text"] (sp_check_name K)) (c_check_number : Cal P w K mg base CX0 3 "check_number" f_check_number fd_check_number ["value"] (sp_check_number K)) (c_Change___init__ : CalI P w K mg base CX0 1 "Change" a_Change f_Change___init__ fd_Change___init__ ["self", "assignments"] (sp_Change___init__ K)) : FnOk P w K mg base CX0 4 f fd ["field", "number"] (sp_Change_adding K) := by
  refine F.ok sc_Change_adding (fun vs H Q E h => len_Change_adding h) (fun cdv A outer s H vs Q E hr h => ?_)
  obtain ⟨z, i, rfl, hz, hn, i0, i1, q⟩ := h
  refine ⟨_, (pss_cons (ps_expr (pe_call c_check_name.G (hr.mono (by first | decide | omega)) rfl c_check_name.m c_check_name.kp c_check_name.b .nil pass0 (pa_cons (v_ 0) pa_nil))) (pss_cons (ps_expr (pe_call c_check_number.G (hr.mono (by first | decide | omega)) rfl c_check_number.m c_check_number.kp c_check_number.b .nil pass0 (pa_cons (v_ 1) pa_nil))) (pss_one (ps_ret (pe_make c_Change___init__.mkc c_Change___init__.G (hr.mono (by first | decide | omega)) rfl c_Change___init__.m c_Change___init__.b .nil pass0 (pa_cons (pe_tup (pa_cons (pe_tup (pa_cons (v_ 0) (pa_cons pe_str (pa_cons (v_ 1) pa_nil)))) pa_nil)) pa_nil)))))), ?_⟩
  refine ⟨z, rfl, hz, hn, fun H1 s1 => ?_⟩
  refine ⟨i, rfl, i0, i1, ?_⟩
  refine ⟨(by show 3 ≤ sizeLine; decide), fun r nr => ?_⟩
  refine ⟨(by show 1 ≤ sizeLine; decide), fun p np => ?_⟩
  exact made (rs := [r]) (xs := [⟨z, true, i⟩]) T.n_Change ((s1.trans (same_new nr)).trans (same_new np)) (.inr upd_same) ⟨same_new np _ _ upd_same, trivial⟩ q
def sp_Change_setting (K : PySem.W.Frag) : Sp := fun vs H Q _ => ∃ (z : Str) (i : Int), vs = [.str z, .int i] ∧ z.length ≤ 1000 ∧ isName z = true ∧ -1000000000000000000000000000000 ≤ i ∧ i ≤ 1000000000000000000000000000000 ∧ spMade K H [⟨z, false, i⟩] Q
theorem len_Change_setting {vs : List V} {H : Hp} {Q : VK} {E : XK} (h : sp_Change_setting K vs H Q E) : vs.length = 2 := by
  obtain ⟨_, _, rfl, _⟩ := h
  rfl
theorem ok_Change_setting {f : Addr} {fd : FuncData} {f_check_name : Addr} {fd_check_name : FuncData} {f_check_number : Addr} {fd_check_number : FuncData} {f_Change___init__ : Addr} {fd_Change___init__ : FuncData} (F : Fun K "setting" "Change.setting" s_Change_setting f fd) (T : Gs K mg t_BOUND t_LETTERS t_LONGEST_NAME a_RESERVED a_BadName a_BadNumber a_Change a_ElseputError a_TooLarge a_UnknownField) (c_check_name : Cal P w K mg base CX0 3 "check_name" f_check_name fd_check_name ["text"] (sp_check_name K)) (c_check_number : Cal P w K mg base CX0 3 "check_number" f_check_number fd_check_number ["value"] (sp_check_number K)) (c_Change___init__ : CalI P w K mg base CX0 1 "Change" a_Change f_Change___init__ fd_Change___init__ ["self", "assignments"] (sp_Change___init__ K)) : FnOk P w K mg base CX0 4 f fd ["field", "number"] (sp_Change_setting K) := by
  refine F.ok sc_Change_setting (fun vs H Q E h => len_Change_setting h) (fun cdv A outer s H vs Q E hr h => ?_)
  obtain ⟨z, i, rfl, hz, hn, i0, i1, q⟩ := h
  refine ⟨_, (pss_cons (ps_expr (pe_call c_check_name.G (hr.mono (by first | decide | omega)) rfl c_check_name.m c_check_name.kp c_check_name.b .nil pass0 (pa_cons (v_ 0) pa_nil))) (pss_cons (ps_expr (pe_call c_check_number.G (hr.mono (by first | decide | omega)) rfl c_check_number.m c_check_number.kp c_check_number.b .nil pass0 (pa_cons (v_ 1) pa_nil))) (pss_one (ps_ret (pe_make c_Change___init__.mkc c_Change___init__.G (hr.mono (by first | decide | omega)) rfl c_Change___init__.m c_Change___init__.b .nil pass0 (pa_cons (pe_tup (pa_cons (pe_tup (pa_cons (v_ 0) (pa_cons pe_str (pa_cons (v_ 1) pa_nil)))) pa_nil)) pa_nil)))))), ?_⟩
  refine ⟨z, rfl, hz, hn, fun H1 s1 => ?_⟩
  refine ⟨i, rfl, i0, i1, ?_⟩
  refine ⟨(by show 3 ≤ sizeLine; decide), fun r nr => ?_⟩
  refine ⟨(by show 1 ≤ sizeLine; decide), fun p np => ?_⟩
  exact made (rs := [r]) (xs := [⟨z, false, i⟩]) T.n_Change ((s1.trans (same_new nr)).trans (same_new np)) (.inr upd_same) ⟨same_new np _ _ upd_same, trivial⟩ q

/-! ### the joining -/
def followedR (x : Rw) : List Rw → Rw
  | [] => x
  | y :: ys => if y.f = x.f then (if y.add = false then ⟨x.f, false, y.n⟩ else ⟨x.f, x.add, x.n + y.n⟩) else followedR x ys
def sp_followed (K : PySem.W.Frag) : Sp := fun vs H Q _ => ∃ (r p : Addr) (x : Rw) (rs : List Addr) (ys : List Rw), vs = [.ref r, .ref p] ∧ RowAt H r x ∧ H p = some (.tup (rs.map V.ref)) ∧ RowsL H rs ys ∧ ys.length ≤ 10 ∧ ∀ (H' : Hp) (r' : Addr), Same H H' → RowAt H' r' (followedR x ys) → Q (.ref r') H'
theorem len_followed {vs : List V} {H : Hp} {Q : VK} {E : XK} (h : sp_followed K vs H Q E) : vs.length = 2 := by
  obtain ⟨_, _, _, _, _, rfl, _⟩ := h
  rfl
theorem deed_set {b : Bool} : decide (deed b = "set") = !b := by cases b <;> decide +kernel
theorem ok_followed {f : Addr} {fd : FuncData} (F : Fun K "followed" "followed" s_followed f fd) (T : Gs K mg t_BOUND t_LETTERS t_LONGEST_NAME a_RESERVED a_BadName a_BadNumber a_Change a_ElseputError a_TooLarge a_UnknownField) : FnOk P w K mg base CX0 1 f fd ["assignment", "later"] (sp_followed K) := by
  refine F.ok sc_followed (fun vs H Q E h => len_followed h) (fun cdv A outer s H vs Q E hr h => ?_)
  obtain ⟨r, p, x, rs, ys, rfl, hx, hp, hrs, hl, q⟩ := h
  refine ⟨_, (pss_cons (ps_asg (v_ 0) (pg_tup (by rfl) (pgs_cons (pg_name (i := 2) sc_followed.nd rfl (.inl rfl)) (pgs_cons (pg_name (i := 3) sc_followed.nd rfl (.inl rfl)) (pgs_cons (pg_name (i := 4) sc_followed.nd rfl (.inl rfl)) pgs_nil))))) (pss_cons (ps_for PassesOwn.never rfl (pi_tup (v_ 1)) (pg_tup (by rfl) (pgs_cons (pg_name (i := 5) sc_followed.nd rfl (.inl rfl)) (pgs_cons (pg_name (i := 6) sc_followed.nd rfl (.inl rfl)) (pgs_cons (pg_name (i := 7) sc_followed.nd rfl (.inl rfl)) pgs_nil)))) (pss_cons (ps_if (PW.pt (pw_and (pt_c (eqK K hr.units) (v_ 5) (v_ 2)) (pw_and1 (pt_c (eqK K hr.units) (v_ 6) pe_str)))) (pss_one (ps_ret (pe_tup (pa_cons (v_ 2) (pa_cons pe_str (pa_cons (v_ 7) pa_nil)))))) pss_nil) (pss_one (ps_if (pt_c (eqK K hr.units) (v_ 5) (v_ 2)) (pss_one (ps_ret (pe_tup (pa_cons (v_ 2) (pa_cons (v_ 3) (pa_cons (pe_op (addK K) (v_ 4) (v_ 7)) pa_nil)))))) pss_nil)))) (pss_one (ps_ret (v_ 0))))), ?_⟩
  refine ⟨r, _, rfl, .inl (.inl hx), rfl, _, _, rfl, _, _, rfl, _, _, rfl, rfl, ?_⟩
  refine ⟨p, rfl, ⟨_, .inl (.inl hp)⟩, ?_⟩
  refine for_tup (K := K) (a := p) (xs := rs.map V.ref) (fun i σ' H' => H' = H ∧ (∃ y z w, σ' = [some (.ref r), some (.ref p), some (.str x.f), some (.str (deed x.add)), some (.int x.n), y, z, w]) ∧ followedR x ys = followedR x (ys.drop i)) ⟨rfl, ⟨_, _, _, rfl⟩, rfl⟩ (fun i σ' H' _ h => by rw [h.1]; exact .inl (.inl hp)) ?_ ?_
  · rintro i v σ' H' hi ⟨rfl, ⟨y, z, w, rfl⟩, hf⟩
    rw [List.getElem?_map] at hi
    obtain ⟨r2, hr2, rfl⟩ := Option.map_eq_some_iff.mp hi
    obtain ⟨y2, hy2, ha2⟩ := hrs.get hr2
    have hd : ys.drop i = y2 :: ys.drop (i + 1) := by
      obtain ⟨h1, h2⟩ := List.getElem?_eq_some_iff.mp hy2
      rw [List.drop_eq_getElem_cons h1, h2]
    rw [hd] at hf
    refine ⟨r2, _, rfl, .inl (.inl ha2), rfl, _, _, rfl, _, _, rfl, _, _, rfl, rfl, ?_⟩
    refine ite2 (fun e => ?_) (fun e => ?_)
    · have e : y2.f = x.f := of_decide_eq_true e
      refine ite2 (fun e2 => ?_) (fun e2 => ?_)
      · have e2 : y2.add = false := by simpa using deed_set.symm.trans e2
        refine ⟨(by show 3 ≤ sizeLine; decide), fun t nt => ?_⟩
        refine q _ t (same_new nt) ?_
        rw [hf, followedR, if_pos e, if_pos e2]
        exact upd_same
      · have e2 : y2.add = true := by
          have := deed_set.symm.trans (Bool.eq_false_iff.mpr e2)
          simpa using this
        refine ite2 (fun e3 => ?_) (fun e3 => absurd (decide_eq_true e) e3)
        refine ⟨(by show 3 ≤ sizeLine; decide), fun t nt => ?_⟩
        refine q _ t (same_new nt) ?_
        rw [hf, followedR, if_pos e, if_neg (by rw [e2]; decide)]
        exact upd_same
    · have e : ¬ y2.f = x.f := of_decide_eq_false (Bool.eq_false_iff.mpr e)
      refine ite2 (fun e3 => nomatch e3) (fun _ => ?_)
      refine ite2 (fun e3 => absurd (of_decide_eq_true e3) e) (fun _ => ?_)
      refine ⟨rfl, ⟨_, _, _, rfl⟩, ?_⟩
      rw [hf, followedR, if_neg e]
  · rintro σ' H' ⟨rfl, ⟨y, z, w, rfl⟩, hf⟩
    refine q H' r (Same.refl H') ?_
    rw [hf, List.drop_of_length_le (by rw [List.length_map, hrs.len]; exact Nat.le_refl _)]
    exact hx
end
section
variable {P : Program} {w : World} {K : PySem.W.Frag} {mg : Str → Option Value} {base : Heap}
variable {t_BOUND t_LETTERS t_LONGEST_NAME : Tok} {a_RESERVED a_BadName a_BadNumber a_Change a_ElseputError a_TooLarge a_UnknownField : Addr}
def okx_TooLarge (ws : List V) : Prop := ∃ l : Int, ws = [.int l] ∧ 0 ≤ l ∧ l ≤ 100000
def fs_TooLarge (ws : List V) : List (Str × V) := match ws with | [l] => [("most", l)] | _ => []
theorem len_spE {C : Addr} {ok : List V → Prop} {fs : List V → List (Str × V)} {n : Nat} (hn : ∀ ws, ok ws → ws.length = n) {vs : List V} {H : Hp} {Q : VK} {E : XK} (h : spE C ok fs vs H Q E) : vs.length = n + 1 := by
  obtain ⟨a, ws, rfl, h, _⟩ := h
  rw [List.length_cons, hn _ h]
theorem log_small {i : Int} (h0 : 0 ≤ i) (h1 : i ≤ 100000) : i.natAbs.log2 < 1920 := by
  by_cases hz : i.natAbs = 0
  · rw [hz]
    decide
  · refine (Nat.log2_lt hz).mpr ?_
    have : i.natAbs ≤ 100000 := by omega
    exact Nat.lt_of_le_of_lt this (Nat.lt_of_lt_of_le (show 100000 < 2 ^ 17 by decide) (Nat.pow_le_pow_right (by decide) (by decide)))
theorem text_small {i : Int} (h0 : 0 ≤ i) (h1 : i ≤ 100000) : (Str.ofString (toString i)).length ≤ 6 := toString_length_le h0 (by decide) (by omega)
theorem ok_TooLarge {C f cc cda : Addr} {doc pm ct oc ccl cl : Value} {od cdd cld : Option Addr} {osl ccs csl : Array (Option Value)} {vs0 : Array Value} {file : Str} {tf : Tok} {cdD : ClassData}
    (X : ExK K C f ["most"]) (lk : K.lookup f = some ⟨oc, od, .func (PySem.W.fnX "__init__" "TooLarge.__init__" (defArgs s_TooLarge) (defBody s_TooLarge) (defScope s_TooLarge) [("__class__", cc)] .none .none doc pm none (.ref cda) ct), osl⟩)
    (hcd : PySem.W.codeIn K (.ref cda) "TooLarge.__init__" = true) (hcode : K.lookup cda = some ⟨ccl, cdd, .fields vs0, ccs⟩) (hvs : vs0[2]? = some (.str file tf)) (hfile : ((P.main.file : Str) == file) = true)
    (hcell : K.lookup cc = some ⟨cl, cld, .cell (some (.ref C)), csl⟩) (hD : PySem.W.clsIn K C = some cdD) (hsuper : mg "super" = none) (hop : PySem.W.nsIn K PySem.cStatics "thirdparty.any" = some none) (htop : (P.main.scope.names.lookup ("super" : Str)).isSome = false) :
    FnOk P w K mg base CX0 1 f (PySem.W.fnX "__init__" "TooLarge.__init__" (defArgs s_TooLarge) (defBody s_TooLarge) (defScope s_TooLarge) [("__class__", cc)] .none .none doc pm none (.ref cda) ct) ["self", "most"] (spE C okx_TooLarge fs_TooLarge) := by
  refine fn_super lk hcd sc_TooLarge hcode hvs hfile hcell hD hsuper hop rfl rfl rfl htop rfl (fun vs H Q E h => len_spE (n := 1) (fun ws h => by obtain ⟨_, rfl, _⟩ := h; rfl) h) (fun A outer s H vs Q E hr h => ?_) (fun _ => rfl) (fun _ => rfl) (fun _ => rfl)
  obtain ⟨a, ws, rfl, ⟨l, rfl, l0, l1⟩, ea, q⟩ := h
  refine ⟨a, C, _, _, rfl, ea, X.oex, X.mro, X.sup, X.subV, pa_cons (pe_joined (.cons pe_str (.cons (pe_fmt (v_ 1)) .nil))) pa_nil, pss_one (ps_ost (v_ 0) (v_ 1)), ?_⟩
  have tl := text_small l0 l1
  have z0 : Str.empty.length = 0 := rfl
  have z1 : (Str.ofString "more than ").length = 10 := rfl
  refine ⟨_, rfl, line_of (by rw [len_add]; omega), .inr ⟨_, rfl, log_small l0 l1, _, rfl, line_of (by rw [len_add, len_add]; omega), ?_⟩⟩
  refine ⟨ea, (by show 1 ≤ 1000; decide), ?_⟩
  exact ⟨a, C, rfl, X.oex, X.no _ (by simp), .inl ⟨ea, ost1 ea fun dx H' n ne e1 e2 hh => q dx _ n ne e1 e2 hh⟩⟩

theorem str_eq {a b : Str} : a = b ↔ a.cps.toList = b.cps.toList := by
  constructor
  · rintro rfl; rfl
  · intro h
    cases a
    cases b
    congr
    exact Array.toList_inj.mp h
theorem inV_str {z : Str} : ∀ {xs : List Str}, inV (.str z) (xs.map V.str) = decide (z ∈ xs)
  | [] => rfl
  | a :: r => by
    have ih := inV_str (z := z) (xs := r)
    unfold inV at ih ⊢
    rw [List.map_cons, List.any_cons, ih]
    have : eqV (.str a) (.str z) = decide (z = a) := by
      show (a == z) = _
      rw [Bool.eq_iff_iff, beq_iff_eq, decide_eq_true_iff, eq_comm]
    rw [this, Bool.eq_iff_iff, Bool.or_eq_true, decide_eq_true_iff, decide_eq_true_iff, decide_eq_true_iff, List.mem_cons]
theorem flat_strs {xs : List Str} : (xs.map V.str).all flatV = true := by
  rw [List.all_map]
  exact List.all_eq_true.mpr fun _ _ => rfl
theorem take_snoc {α : Type} {xs : List α} {i : Nat} {x : α} (h : xs[i]? = some x) : xs.take (i + 1) = xs.take i ++ [x] := by
  rw [List.take_add_one, h]
  rfl
def sp_Change_assigned (K : PySem.W.Frag) : Sp := fun vs H Q _ => ∃ (a : Addr) (xs : List Rw), vs = [.ref a] ∧ ChAt K H a xs ∧ xs.length ≤ 20 ∧ ∀ (H' : Hp) (t : Addr), Same H H' → H' t = some (.tup ((xs.map (·.f)).map V.str)) → Q (.ref t) H'
theorem len_Change_assigned {vs : List V} {H : Hp} {Q : VK} {E : XK} (h : sp_Change_assigned K vs H Q E) : vs.length = 1 := by
  obtain ⟨_, _, rfl, _⟩ := h
  rfl
theorem ok_Change_assigned {f : Addr} {fd : FuncData} (F : Fun K "assigned" "Change.assigned" s_Change_assigned f fd) (T : Gs K mg t_BOUND t_LETTERS t_LONGEST_NAME a_RESERVED a_BadName a_BadNumber a_Change a_ElseputError a_TooLarge a_UnknownField) : FnOk P w K mg base CX0 1 f fd ["self"] (sp_Change_assigned K) := by
  refine F.ok sc_Change_assigned (fun vs H Q E h => len_Change_assigned h) (fun cdv A outer s H vs Q E hr h => ?_)
  obtain ⟨a, xs, rfl, ⟨C, dx, t, rs, hC, ha, ht, hrs⟩, hl, q⟩ := h
  cases hC.symm.trans T.n_Change
  refine ⟨_, (pss_one (ps_ret (pe_callTy (tupleK K) (by rfl) T.z_tuple (by decide +kernel) (pa_cons (pe_lc (own := [("part", 1)]) (g := gName 1) (by rfl) sc_Change_assigned.nd (pi_tup (e_f K (v_ 0))) (blkOk_by (N := ["self", "part"]) (sc := defScope s_Change_assigned) (by decide +kernel)) (fun _ _ _ _ _ => pg_name (i := 1) sc_Change_assigned.nd rfl (Or.inl rfl)) (fun _ _ _ _ _ => pts_nil) (fun _ _ _ _ _ => (e_x K (v_ 1) pe_int))) pa_nil)))), ?_⟩
  refine ⟨a, a_Change, dx, _, _, rfl, ha, T.cl_Change, T.na_Change_assignments, rfl, t, rfl, ⟨_, SqT.of ht⟩, fun D nD => ?_⟩
  refine lc_it walk_tup (fun i H' => Same H H' ∧ H' D = some (.lst (((xs.take i).map (·.f)).map V.str))) ⟨same_new nD, upd_same⟩ (fun _ _ _ h => SqT.of (h.1 _ _ ht)) ?_ ?_
  · rintro i v H1 H2 hi ⟨sm, hD⟩ ⟨rfl, hv⟩
    rw [List.length_map] at hi
    obtain ⟨r, er⟩ : ∃ r, rs[i]? = some r := ⟨_, List.getElem?_eq_getElem hi⟩
    have hv : (rs.map V.ref)[i]? = some v := by
      first | exact hv | exact hv _ (SqT.of (sm _ _ ht))
    rw [List.getElem?_map, er] at hv
    cases hv
    obtain ⟨x, ex, hx⟩ := hrs.get er
    refine ⟨rfl, ?_⟩
    refine ⟨_, .inr (SqT.of (sm _ _ hx)), .str x.f, rfl, _, hD, line_lt (by rw [List.length_map, List.length_map, List.length_take]; omega), ?_, ?_⟩
    · intro b o hb
      rw [upd_ne (ne_of_none hb nD)]
      exact sm _ _ hb
    · rw [upd_same, take_snoc ex, List.map_append, List.map_append]
      rfl
  · rintro H1 ⟨sm, hD⟩
    rw [List.length_map, hrs.len, List.take_length] at hD
    refine ⟨D, _, rfl, .inl ⟨SqL.of hD, fun u nu => ?_⟩⟩
    exact q _ u (sm.trans (same_new nu)) upd_same
end
section
variable {P : Program} {w : World} {K : PySem.W.Frag} {mg : Str → Option Value} {base : Heap}
variable {t_BOUND t_LETTERS t_LONGEST_NAME : Tok} {a_RESERVED a_BadName a_BadNumber a_Change a_ElseputError a_TooLarge a_UnknownField : Addr}
theorem RowsL.keep {H H' : Hp} (s : ∀ c z, H c = some (.tup z) → H' c = some (.tup z)) : ∀ {rs : List Addr} {xs : List Rw}, RowsL H rs xs → RowsL H' rs xs
  | [], [], _ => trivial
  | _ :: _, _ :: _, ⟨h, t⟩ => ⟨s _ _ h, RowsL.keep s t⟩
def joinedR (xs ys : List Rw) : List Rw := xs.map (fun x => followedR x ys) ++ ys.filter (fun y => !decide (y.f ∈ xs.map (·.f)))
def Joins (K : PySem.W.Frag) (H : Hp) (xs ys : List Rw) (Q : VK) (E : XK) : Prop := if (joinedR xs ys).length ≤ 3 then spMade K H (joinedR xs ys) Q else
  ∀ (C d : Addr) (H' : Hp), PySem.W.nsIn K mainGlobals "TooLarge" = some (some (.ref C)) → Same H H' → H d = none → H' d = some (.xd [("most", .int 3)]) → E (.ref C) (some d) H'
def sp_Change___rshift__ (K : PySem.W.Frag) : Sp := fun vs H Q E => ∃ (a b : Addr) (xs ys : List Rw), vs = [.ref a, .ref b] ∧ ChAt K H a xs ∧ ChAt K H b ys ∧ xs.length ≤ 10 ∧ ys.length ≤ 10 ∧ Joins K H xs ys Q E
theorem len_Change___rshift__ {vs : List V} {H : Hp} {Q : VK} {E : XK} (h : sp_Change___rshift__ K vs H Q E) : vs.length = 2 := by
  obtain ⟨_, _, _, _, rfl, _⟩ := h
  rfl
theorem ok_Change___rshift__ {f : Addr} {fd : FuncData} {f_followed : Addr} {fd_followed : FuncData} {f_Change___init__ : Addr} {fd_Change___init__ : FuncData} {f_Change_assigned : Addr} {fd_Change_assigned : FuncData} {p_Change_assigned : Addr} {f_TooLarge : Addr} {fd_TooLarge : FuncData} (F : Fun K "__rshift__" "Change.__rshift__" s_Change___rshift__ f fd) (T : Gs K mg t_BOUND t_LETTERS t_LONGEST_NAME a_RESERVED a_BadName a_BadNumber a_Change a_ElseputError a_TooLarge a_UnknownField) (c_followed : Cal P w K mg base CX0 1 "followed" f_followed fd_followed ["assignment", "later"] (sp_followed K)) (c_Change___init__ : CalI P w K mg base CX0 1 "Change" a_Change f_Change___init__ fd_Change___init__ ["self", "assignments"] (sp_Change___init__ K)) (c_Change_assigned : CalP P w K mg base CX0 1 a_Change p_Change_assigned "assigned" f_Change_assigned fd_Change_assigned ["self"] (sp_Change_assigned K)) (c_TooLarge : CalE P w K mg base 1 "TooLarge" a_TooLarge f_TooLarge fd_TooLarge ["self", "most"] okx_TooLarge fs_TooLarge ["most"]) : FnOk P w K mg base (L2.CX P w) 3 f fd ["self", "other"] (sp_Change___rshift__ K) := by
  refine F.okX sc_Change___rshift__ (fun vs H Q E h => len_Change___rshift__ h) (fun cdv A outer s H vs Q E hr h => ?_)
  obtain ⟨a, b, xs, ys, rfl, hA, hB, lx, ly, q⟩ := h
  obtain ⟨C, dx, t, rs, hC, ha, ht, hrs⟩ := id hA
  obtain ⟨C2, dy, u, us, hC2, hb, hu, hus⟩ := id hB
  cases hC.symm.trans T.n_Change
  cases hC2.symm.trans T.n_Change
  refine ⟨_, (pss_cons (ps_setLc (i := 2) (own := [("part", 4)]) (g := gName 4) (by rfl) sc_Change___rshift__.nd rfl rfl (sw_true rfl rfl rfl (by decide +kernel)) (pi_tup (e_f K (v_ 0))) (blkOk_by (N := ["self", "other", "both", "new", "part"]) (sc := defScope s_Change___rshift__) (by decide +kernel)) (fun _ _ _ _ _ => pg_name (i := 4) sc_Change___rshift__.nd rfl (Or.inl rfl)) (fun _ _ _ _ _ => pts_nil) (fun _ _ _ _ _ => (pe_call c_followed.G (hr.mono (by first | decide | omega)) rfl c_followed.m c_followed.kp c_followed.b .nil pass0 (pa_cons (v_ 4) (pa_cons (e_f K (v_ 1)) pa_nil))))) (pss_cons (ps_setLc (i := 3) (own := [("part", 4)]) (g := gName 4) (by rfl) sc_Change___rshift__.nd rfl rfl (sw_true rfl rfl rfl (by decide +kernel)) (pi_tup (e_f K (v_ 1))) (blkOk_by (N := ["self", "other", "both", "new", "part"]) (sc := defScope s_Change___rshift__) (by decide +kernel)) (fun _ _ _ _ _ => pg_name (i := 4) sc_Change___rshift__.nd rfl (Or.inl rfl)) (fun _ _ _ _ _ => pts_one (pt_c (notInK K) (e_x K (v_ 4) pe_int) (pe_prop (v_ 0) c_Change_assigned.cl c_Change_assigned.pr c_Change_assigned.G (hr.mono (by first | decide | omega)) c_Change_assigned.b .nil pass0 (by rfl)))) (fun _ _ _ _ _ => (v_ 4))) (pss_cons (ps_if (pt_c op_gtM (pe_op (addK K) (pe_callB (lenK K) (by rfl) T.z_len PySem.boot_len (pa_cons (v_ 2) pa_nil)) (pe_callB (lenK K) (by rfl) T.z_len PySem.boot_len (pa_cons (v_ 3) pa_nil))) (e_cv K (pe_glob (v := .ref a_Change) rfl T.g_Change rfl))) (pss_one (ps_raise rfl (takes_of rfl rfl rfl rfl) (pmk_oex c_TooLarge.X.oex c_TooLarge.X.iC c_TooLarge.X.tI c_TooLarge.G (hr.mono (by first | decide | omega)) c_TooLarge.b .nil pass0 rfl c_TooLarge.m (pa_cons (e_cv K (pe_glob (v := .ref a_Change) rfl T.g_Change rfl)) pa_nil)))) pss_nil) (pss_one (ps_ret (pe_make c_Change___init__.mkc c_Change___init__.G (hr.mono (by first | decide | omega)) rfl c_Change___init__.m c_Change___init__.b .nil pass0 (pa_cons (pe_tup (StX.pa_star (v_ 2) (StX.pa_star (v_ 3) pa_nil))) pa_nil))))))), ?_⟩
  refine ⟨a, a_Change, dx, _, _, rfl, ha, T.cl_Change, T.na_Change_assignments, rfl, t, rfl, ⟨_, SqT.of ht⟩, fun D nD => ?_⟩
  refine lc_it walk_tup (fun i H' => Same H H' ∧ ∃ ts : List Addr, H' D = some (.lst (ts.map V.ref)) ∧ RowsL H' ts ((xs.take i).map (fun x => followedR x ys))) ⟨same_new nD, [], upd_same, trivial⟩ (fun _ _ _ h => SqT.of (h.1 _ _ ht)) ?_ ?_
  · rintro i v H1 H2 hi ⟨sm, ts, hD, hts⟩ ⟨rfl, hv⟩
    rw [List.length_map] at hi
    obtain ⟨r, er⟩ : ∃ r, rs[i]? = some r := ⟨_, List.getElem?_eq_getElem hi⟩
    have hv : (rs.map V.ref)[i]? = some v := by
      first | exact hv | exact hv _ (SqT.of (sm _ _ ht))
    rw [List.getElem?_map, er] at hv
    cases hv
    obtain ⟨x, ex, hx⟩ := hrs.get er
    refine ⟨rfl, ?_⟩
    refine ⟨b, a_Change, dy, _, _, rfl, sm _ _ hb, T.cl_Change, T.na_Change_assignments, rfl, r, u, x, us, ys, rfl, sm _ _ hx, sm _ _ hu, hus.same sm, ly, fun H3 r' s3 hr' => ?_⟩
    have tl : ts.length ≤ 10 := by
      rw [hts.len, List.length_map, List.length_take]
      omega
    refine ⟨_, s3 _ _ hD, line_lt (by rw [List.length_map]; omega), ?_, ts ++ [r'], by rw [upd_same, List.map_append]; rfl, ?_⟩
    · intro c o hc
      rw [upd_ne (ne_of_none hc nD)]
      exact s3 _ _ (sm _ _ hc)
    · rw [take_snoc ex, List.map_append]
      have keep : ∀ c z, H3 c = some (.tup z) → (upd H3 D (.lst (ts.map V.ref ++ [.ref r']))) c = some (.tup z) := fun c z hc => by
        rw [upd_ne (ne_of hc (s3 _ _ hD) (by intro e; cases e))]
        exact hc
      exact RowsL.app ((hts.same s3).keep keep) ⟨keep _ _ hr', trivial⟩
  · rintro H1 ⟨sm, ts, hD, hts⟩
    rw [List.length_map, hrs.len, List.take_length] at hts
    refine ⟨b, a_Change, dy, _, _, rfl, sm _ _ hb, T.cl_Change, T.na_Change_assignments, rfl, u, rfl, ⟨_, SqT.of (sm _ _ hu)⟩, fun D2 nD2 => ?_⟩
    refine lc_it walk_tup (fun i H' => Same H1 H' ∧ ∃ ts : List Addr, H' D2 = some (.lst (ts.map V.ref)) ∧ RowsL H' ts ((ys.take i).filter (fun y => !decide (y.f ∈ xs.map (·.f))))) ⟨same_new nD2, [], upd_same, trivial⟩ (fun _ _ _ h => SqT.of (h.1 _ _ (sm _ _ hu))) ?_ ?_
    · rintro i v H2 H2' hi ⟨sm2, ts2, hD2, hts2⟩ ⟨rfl, hv⟩
      rw [List.length_map] at hi
      obtain ⟨r, er⟩ : ∃ r, us[i]? = some r := ⟨_, List.getElem?_eq_getElem hi⟩
      have hv : (us.map V.ref)[i]? = some v := by
        first | exact hv | exact hv _ (SqT.of (sm2 _ _ (sm _ _ hu)))
      rw [List.getElem?_map, er] at hv
      cases hv
      obtain ⟨y, ey, hy⟩ := hus.get er
      have s02 := sm.trans sm2
      refine ⟨rfl, ?_⟩
      refine ⟨_, .inr (SqT.of (s02 _ _ hy)), .str y.f, rfl, a, dx, _, rfl, s02 _ _ ha, a, xs, rfl, hA.same s02, by omega, fun H3 t3 s3 ht3 => ?_⟩
      refine ⟨_, .inr (SqT.of ht3), rfl, flat_strs, ?_⟩
      have hf : (ys.take (i + 1)).filter (fun y => !decide (y.f ∈ xs.map (·.f))) = (ys.take i).filter (fun y => !decide (y.f ∈ xs.map (·.f))) ++ (if (!decide (y.f ∈ xs.map (·.f))) = true then [y] else []) := by
        rw [take_snoc ey, List.filter_append, List.filter_cons, List.filter_nil]
      refine ite2 (fun e => ?_) (fun e => ?_)
      · have e : (!decide (y.f ∈ xs.map (·.f))) = true := by rw [← inV_str]; exact e
        have tl : ts2.length ≤ 10 := by
          rw [hts2.len]
          have := List.length_filter_le (fun y : Rw => !decide (y.f ∈ xs.map (·.f))) (ys.take i)
          rw [List.length_take] at this
          omega
        have keep : ∀ c z, H3 c = some (.tup z) → (upd H3 D2 (.lst (ts2.map V.ref ++ [.ref r]))) c = some (.tup z) := fun c z hc => by
          rw [upd_ne (ne_of hc (s3 _ _ hD2) (by intro e; cases e))]
          exact hc
        refine ⟨_, s3 _ _ hD2, line_lt (by rw [List.length_map]; omega), ?_, ts2 ++ [r], by rw [upd_same, List.map_append]; rfl, ?_⟩
        · intro c o hc
          rw [upd_ne (ne_of_none hc nD2)]
          exact s3 _ _ (sm2 _ _ hc)
        · rw [hf, if_pos e]
          exact RowsL.app ((hts2.same s3).keep keep) ⟨keep _ _ (s3 _ _ (s02 _ _ hy)), trivial⟩
      · have e : ¬ (!decide (y.f ∈ xs.map (·.f))) = true := by rw [← inV_str]; exact e
        refine ⟨sm2.trans s3, ts2, s3 _ _ hD2, ?_⟩
        rw [hf, if_neg e, List.append_nil]
        exact hts2.same s3
    · rintro H2 ⟨sm2, ts2, hD2, hts2⟩
      rw [List.length_map, hus.len, List.take_length] at hts2
      have hlen : (joinedR xs ys).length = ts.length + ts2.length := by
        unfold joinedR
        rw [List.length_append, hts.len, hts2.len]
      refine .inl ⟨_, .inl (SqL.of (sm2 _ _ hD)), .inl ⟨_, .inl (SqL.of hD2), ?_⟩⟩
      rw [List.length_map, List.length_map]
      obtain ⟨mu, hmu⟩ := T.cv_Change_MOST
      have s02 := sm.trans sm2
      have t1 : ts.length ≤ 10 := by rw [hts.len, List.length_map]; exact lx
      have t2 : ts2.length ≤ 10 := by
        rw [hts2.len]
        exact Nat.le_trans (List.length_filter_le _ _) ly
      refine ⟨a_Change, _, _, _, rfl, T.rd_Change, hmu, ?_⟩
      unfold Joins at q
      refine ite2 (fun e => ?_) (fun e => ?_)
      · have e : (3 : Int) < (ts.length : Int) + ts2.length := of_decide_eq_true e
        rw [if_neg (by omega)] at q
        refine ⟨a_Change, _, _, _, rfl, T.rd_Change, hmu, ?_⟩
        refine mk_spE (by show 1 ≤ 1000; decide) ⟨3, rfl, by decide, by decide⟩ (fun d nd => ?_)
        exact q a_TooLarge d _ T.n_TooLarge (s02.trans (same_new nd)) (Same.free s02 nd) upd_same
      · have e : ¬ (3 : Int) < (ts.length : Int) + ts2.length := of_decide_eq_false (Bool.eq_false_iff.mpr e)
        rw [if_pos (by omega)] at q
        refine ⟨D, _, rfl, .inr (SqL.of (sm2 _ _ hD)), D2, _, rfl, .inr (SqL.of hD2), ?_⟩
        refine ⟨line_of (by rw [List.append_nil, List.length_append, List.length_map, List.length_map]; omega), fun p np => ?_⟩
        refine made (rs := ts ++ ts2) (xs := joinedR xs ys) T.n_Change (s02.trans (same_new np)) (.inr ?_) (((hts.same sm2).app hts2).same (same_new np)) q
        rw [upd_same, List.append_nil, List.map_append]
end
section
variable {P : Program} {w : World} {K : PySem.W.Frag} {mg : Str → Option Value} {base : Heap}
variable {t_BOUND t_LETTERS t_LONGEST_NAME : Tok} {a_RESERVED a_BadName a_BadNumber a_Change a_ElseputError a_TooLarge a_UnknownField : Addr}
/-- a content -/
abbrev Ct := List (Key × V)
def kS (z : Str) : Key := .inr z
def Ints (c : Ct) : Prop := ∀ k v, valV c k = some v → ∃ i : Int, v = .int i
theorem Ints.put {c : Ct} (h : Ints c) (k : Key) (n : Int) : Ints (putK c k (.int n)) := fun j v e => by
  rw [valV_put] at e
  split at e
  · exact ⟨n, (Option.some.inj e).symm⟩
  · exact h j v e
def newN (c : Ct) (x : Rw) : Int := if x.add then (match valV c (kS x.f) with | some (.int o) => o + x.n | _ => x.n) else x.n
def stepR (c : Ct) (x : Rw) : Ct := putK c (kS x.f) (.int (newN c x))
def applyR (c : Ct) (xs : List Rw) : Ct := xs.foldl stepR c
def HasF (c : Ct) (z : Str) : Prop := (valV c (kS z)).isSome = true
theorem HasF.step {c : Ct} {z : Str} {x : Rw} (h : HasF c z) : HasF (stepR c x) z := by
  unfold HasF stepR at *
  rw [valV_put]
  split
  · rfl
  · exact h
theorem Ints.step {c : Ct} {x : Rw} (h : Ints c) : Ints (stepR c x) := h.put _ _
theorem putK_len' {c : Ct} {k : Key} {v : V} (h : (valV c k).isSome = true) : (putK c k v).length = c.length := by
  unfold putK
  rw [valV_any, if_pos h, List.length_map]
def sp_Change___call__ (K : PySem.W.Frag) : Sp := fun vs H Q _ => ∃ (a p : Addr) (xs : List Rw) (c : Ct), vs = [.ref a, .ref p] ∧ ChAt K H a xs ∧ xs.length ≤ 20 ∧ H p = some (.dK c) ∧ Ints c ∧ c.length ≤ 100 ∧ (∀ x ∈ xs, HasF c x.f) ∧
  ∀ (H' : Hp) (r : Addr), Same H H' → H r = none → H' r = some (.dK (applyR c xs)) → Q (.ref r) H'
theorem len_Change___call__ {vs : List V} {H : Hp} {Q : VK} {E : XK} (h : sp_Change___call__ K vs H Q E) : vs.length = 2 := by
  obtain ⟨_, _, _, _, rfl, _⟩ := h
  rfl
theorem ok_Change___call__ {f : Addr} {fd : FuncData} {f_Change_assigned : Addr} {fd_Change_assigned : FuncData} {p_Change_assigned : Addr} (F : Fun K "__call__" "Change.__call__" s_Change___call__ f fd) (T : Gs K mg t_BOUND t_LETTERS t_LONGEST_NAME a_RESERVED a_BadName a_BadNumber a_Change a_ElseputError a_TooLarge a_UnknownField) (c_Change_assigned : CalP P w K mg base CX0 1 a_Change p_Change_assigned "assigned" f_Change_assigned fd_Change_assigned ["self"] (sp_Change_assigned K)) : FnOk P w K mg base CX0 3 f fd ["self", "content"] (sp_Change___call__ K) := by
  refine F.ok sc_Change___call__ (fun vs H Q E h => len_Change___call__ h) (fun cdv A outer s H vs Q E hr h => ?_)
  obtain ⟨a, p, xs, c, rfl, hA, lx, hp, hI, hcl, hF, q⟩ := h
  obtain ⟨C, dx, t, rs, hC, ha, ht, hrs⟩ := id hA
  cases hC.symm.trans T.n_Change
  refine ⟨_, (pss_cons (ps_for PassesOwn.never rfl (pi_tup (pe_prop (v_ 0) c_Change_assigned.cl c_Change_assigned.pr c_Change_assigned.G (hr.mono (by first | decide | omega)) c_Change_assigned.b .nil pass0 (by rfl))) (pg_name (i := 2) sc_Change___call__.nd rfl (.inl rfl)) (pss_one (ps_if (pt_cmp (pc_dnotin (hu_of hr) (v_ 2) (v_ 1))) (pss_one ps_never) pss_nil))) (pss_cons (ps_set (i := 3) sc_Change___call__.nd rfl (.inl rfl) (pe_callTy call_dictD (by rfl) T.z_dict (by decide +kernel) (pa_cons (v_ 1) pa_nil))) (pss_cons (ps_for PassesOwn.never rfl (pi_tup (e_f K (v_ 0))) (pg_tup (by rfl) (pgs_cons (pg_name (i := 2) sc_Change___call__.nd rfl (.inl rfl)) (pgs_cons (pg_name (i := 4) sc_Change___call__.nd rfl (.inl rfl)) (pgs_cons (pg_name (i := 5) sc_Change___call__.nd rfl (.inl rfl)) pgs_nil)))) (pss_one (ps_asg (pe_ifExp (pt_c (eqK K hr.units) (v_ 4) pe_str) (v_ 5) (pe_op (addK K) (pe_dget (hu_of hr) (v_ 3) (v_ 2) (fun _ _ => rfl)) (v_ 5))) (pg_sub (v_ 3) (v_ 2) (set_dict (hu_of hr)))))) (pss_one (ps_ret (v_ 3)))))), ?_⟩
  refine ⟨a, dx, _, rfl, ha, a, xs, rfl, hA, lx, fun H1 t1 s1 ht1 => ?_⟩
  refine ⟨t1, rfl, ⟨_, .inl (.inl ht1)⟩, ?_⟩
  refine for_tup (K := K) (a := t1) (xs := (xs.map (·.f)).map V.str) (fun i σ' H' => H' = H1 ∧ ∃ y, σ' = [some (.ref a), some (.ref p), y, none, none, none]) ⟨rfl, _, rfl⟩ (fun i σ' H' _ h => by rw [h.1]; exact .inl (.inl ht1)) ?_ ?_
  · rintro i v σ' H' hi ⟨rfl, y, rfl⟩
    rw [List.getElem?_map, List.getElem?_map] at hi
    obtain ⟨z, hz, rfl⟩ := Option.map_eq_some_iff.mp hi
    obtain ⟨x, hx, rfl⟩ := Option.map_eq_some_iff.mp hz
    have hf := hF x (List.mem_of_getElem? hx)
    refine ⟨p, _, rfl, DGet.k (k := kS x.f) (s1 _ _ hp), ?_⟩
    unfold HasF at hf
    rw [hf]
    exact ⟨_, rfl, rfl, _, rfl⟩
  · rintro σ' H' ⟨rfl, y, rfl⟩
    refine ⟨p, c, rfl, .inl (s1 _ _ hp), fun r nr => ?_⟩
    have s2 := s1.trans (same_new (o := .dK c) nr)
    have r0 : H r = none := Same.free s1 nr
    refine ⟨a, a_Change, dx, _, _, rfl, s2 _ _ ha, T.cl_Change, T.na_Change_assignments, rfl, t, rfl, ⟨_, .inl (.inl (s2 _ _ ht))⟩, ?_⟩
    have pr : p ≠ r := ne_of_none (s1 _ _ hp) nr
    have tr : t ≠ r := ne_of_none (s1 _ _ ht) nr
    refine for_tup (K := K) (a := t) (xs := rs.map V.ref) (fun i σ' H2 => (∃ y z w, σ' = [some (.ref a), some (.ref p), y, some (.ref r), z, w]) ∧ Same H H2 ∧ H2 r = some (.dK (applyR c (xs.take i)))) ?_ ?_ ?_ ?_
    · exact ⟨⟨_, _, _, rfl⟩, s2, upd_same⟩
    · exact fun i σ' H2 _ h => .inl (.inl (h.2.1 _ _ ht))
    · rintro i v σ' H2 hi ⟨⟨y, z, w, rfl⟩, sm, hr2⟩
      rw [List.getElem?_map] at hi
      obtain ⟨k, hk, rfl⟩ := Option.map_eq_some_iff.mp hi
      obtain ⟨x, hx, hax⟩ := hrs.get hk
      have hd : applyR c (xs.take (i + 1)) = stepR (applyR c (xs.take i)) x := by
        rw [take_snoc hx]
        unfold applyR
        rw [List.foldl_append]
        rfl
      have hIi : ∀ {c : Ct} (l : List Rw), Ints c → Ints (applyR c l) := fun {c} l => by
        induction l generalizing c with
        | nil => exact fun h => h
        | cons x l ih => exact fun h => ih h.step
      have hFi : ∀ {c : Ct} {z : Str} (l : List Rw), HasF c z → HasF (applyR c l) z := fun {c z} l => by
        induction l generalizing c with
        | nil => exact fun h => h
        | cons x l ih => exact fun h => ih h.step
      have hLi : ∀ {c : Ct} (l : List Rw), (∀ x ∈ l, HasF c x.f) → (applyR c l).length = c.length := fun {c} l => by
        induction l generalizing c with
        | nil => exact fun _ => rfl
        | cons x l ih =>
          intro h
          have := ih (c := stepR c x) fun y hy => (h y (List.mem_cons_of_mem _ hy)).step
          exact this.trans (putK_len' (h x List.mem_cons_self))
      have hf := hFi (xs.take i) (hF x (List.mem_of_getElem? hx))
      have hn := hIi (xs.take i) hI
      have hlen := hLi (xs.take i) fun y hy => hF y (List.mem_of_mem_take hy)
      generalize applyR c (xs.take i) = c' at hr2 hd hf hn hlen
      obtain ⟨v, hv⟩ := Option.isSome_iff_exists.mp hf
      obtain ⟨o, rfl⟩ := hn _ _ hv
      refine ⟨k, _, rfl, .inl (.inl (sm _ _ hax)), rfl, _, _, rfl, _, _, rfl, _, _, rfl, rfl, ?_⟩
      have fin : ∀ n : Int, n = newN c' x → (∃ y z w : Option V, [some (V.ref a), some (V.ref p), some (V.str x.f), some (V.ref r), some (V.str (deed x.add)), some (V.int x.n)] = [some (V.ref a), some (V.ref p), y, some (V.ref r), z, w]) ∧ Same H (upd H2 r (.dK (putK c' (kS x.f) (.int n)))) ∧ (upd H2 r (.dK (putK c' (kS x.f) (.int n)))) r = some (.dK (applyR c (xs.take (i + 1)))) := fun n e => by
        refine ⟨⟨_, _, _, rfl⟩, fun b ob hb => ?_, ?_⟩
        · rw [upd_ne (ne_of_none hb r0)]
          exact sm _ _ hb
        · rw [upd_same, hd, e]
          rfl
      refine ite2 (fun e => ?_) (fun e => ?_)
      · have e : x.add = false := by simpa using deed_set.symm.trans e
        refine ⟨r, _, rfl, DPut.k (k := kS x.f) hr2 (line_lt (by omega)), ?_⟩
        exact fin _ (by unfold newN; rw [e]; rfl)
      · have e : x.add = true := by
          have := deed_set.symm.trans (Bool.eq_false_iff.mpr e)
          simpa using this
        have hg := DGet.k (k := kS x.f) hr2
        rw [hv] at hg
        refine ⟨r, _, rfl, hg, ?_⟩
        refine ⟨r, _, rfl, DPut.k (k := kS x.f) hr2 (line_lt (by omega)), ?_⟩
        exact fin _ (by unfold newN; rw [e, hv]; rfl)
    · rintro σ' H2 ⟨⟨y, z, w, rfl⟩, sm, hr2⟩
      rw [List.length_map, hrs.len, List.take_length] at hr2
      exact q H2 r sm r0 hr2
end
section
variable {P : Program} {w : World} {K : PySem.W.Frag} {mg : Str → Option Value} {base : Heap}
variable {t_BOUND t_LETTERS t_LONGEST_NAME : Tok} {a_RESERVED a_BadName a_BadNumber a_Change a_ElseputError a_TooLarge a_UnknownField : Addr}
def sp__law_draw (K : PySem.W.Frag) : Sp := fun vs H Q _ => ∃ (st scr : Addr) (many : Int), vs = [.ref st, .int many] ∧ DrAt H st scr ∧ 0 < many ∧ many.natAbs < 2 ^ 200 ∧
  ∀ (r : Int) (l : List V), 0 ≤ r → r < many → DrAt (upd H st (.lst l)) st scr → Q (.int r) (upd H st (.lst l))
theorem len__law_draw {vs : List V} {H : Hp} {Q : VK} {E : XK} (h : sp__law_draw K vs H Q E) : vs.length = 2 := by
  obtain ⟨_, _, _, rfl, _⟩ := h
  rfl
theorem ok__law_draw {f : Addr} {fd : FuncData} (F : Fun K "_law_draw" "_law_draw" s__law_draw f fd) (T : Gs K mg t_BOUND t_LETTERS t_LONGEST_NAME a_RESERVED a_BadName a_BadNumber a_Change a_ElseputError a_TooLarge a_UnknownField) : FnOk P w K mg base CX0 1 f fd ["_law_state_here", "_law_many"] (sp__law_draw K) := by
  refine F.ok sc__law_draw (fun vs H Q E h => len__law_draw h) (fun cdv A outer s H vs Q E hr h => ?_)
  obtain ⟨st, scr, many, rfl, ⟨ns, i, v, m, c, hst, hscr, hl, h0⟩, hm0, hm1, q⟩ := h
  have hne := DrAt.ne hst hscr
  refine ⟨_, (Evl.pss_cut (ps_if (pt_c (eqK K hr.units) (e_x K (v_ 0) pe_int) pe_int) (pss_cons (ps_if (pt_c op_geM (e_x K (v_ 0) pe_int) (pe_callB (lenK K) (by rfl) T.z_len PySem.boot_len (pa_cons (e_x K (v_ 0) pe_int) pa_nil))) (pss_one (ps_ret pe_int)) pss_nil) (pss_cons (ps_asg (pe_callTy call_intM (by rfl) T.z_int (by decide +kernel) (pa_cons (e_x K (e_x K (v_ 0) pe_int) (e_x K (v_ 0) pe_int)) pa_nil)) (pg_sub (v_ 0) pe_int set_list)) (pss_cons (ps_asg (pe_op (addK K) (e_x K (v_ 0) pe_int) pe_int) (pg_sub (v_ 0) pe_int set_list)) (pss_cons (ps_asg pe_int (pg_sub (v_ 0) pe_int set_list)) (pss_cons (ps_asg pe_int (pg_sub (v_ 0) pe_int set_list)) (pss_one (ps_if (pt_c op_ltM (e_x K (v_ 0) pe_int) (pe_op op_powM pe_int pe_int)) (pss_one (ps_asg pe_int (pg_sub (v_ 0) pe_int set_list))) pss_nil))))))) pss_nil) (pss_cons (ps_asg (pe_op (addK K) (e_x K (v_ 0) pe_int) pe_int) (pg_sub (v_ 0) pe_int set_list)) (pss_cons (ps_if (pt_c (eqK K hr.units) (e_x K (v_ 0) pe_int) pe_int) (pss_cons (ps_set (i := 5) sc__law_draw.nd rfl (.inl rfl) (pe_op op_modM (pe_callTy call_intM (by rfl) T.z_int (by decide +kernel) (pa_cons (e_x K (v_ 0) pe_int) pa_nil)) (v_ 1))) (pss_cons (ps_asg (pe_op op_divM (pe_callTy call_intM (by rfl) T.z_int (by decide +kernel) (pa_cons (e_x K (v_ 0) pe_int) pa_nil)) (v_ 1)) (pg_sub (v_ 0) pe_int set_list)) (Evl.pss_cut (ps_if (PW.pt (pw_or (pt_c (eqK K hr.units) (e_x K (v_ 0) pe_int) pe_int) (pw_or1 (pt_c op_geM (e_x K (v_ 0) pe_int) pe_int)))) (pss_one (ps_asg pe_int (pg_sub (v_ 0) pe_int set_list))) pss_nil) (pss_one (ps_ret (v_ 5)))))) pss_nil) (pss_cons (ps_set (i := 2) sc__law_draw.nd rfl (.inl rfl) (pe_op op_modM (pe_callTy call_intM (by rfl) T.z_int (by decide +kernel) (pa_cons (pe_op (addK K) (pe_op op_mulSM (e_x K (v_ 0) pe_int) pe_int) (pe_op op_mulSM (e_x K (v_ 0) pe_int) pe_int)) pa_nil)) pe_int)) (pss_cons (ps_set (i := 3) sc__law_draw.nd rfl (.inl rfl) (pe_op op_modM (pe_callTy call_intM (by rfl) T.z_int (by decide +kernel) (pa_cons (pe_op (addK K) (pe_op (addK K) (pe_op op_mulSM (v_ 2) (v_ 2)) (pe_op op_mulSM (e_x K (v_ 0) pe_int) pe_int)) pe_int) pa_nil)) pe_int)) (Evl.pss_cut (ps_if (pt_c op_geM (e_x K (v_ 0) pe_int) pe_int) (pss_one (ps_asg pe_int (pg_sub (v_ 0) pe_int set_list))) pss_nil) (pss_cons (ps_set (i := 4) sc__law_draw.nd rfl (.inl rfl) (pe_op op_modM (pe_callTy call_intM (by rfl) T.z_int (by decide +kernel) (pa_cons (pe_op (addK K) (pe_op op_mulSM (v_ 3) pe_int) (v_ 2)) pa_nil)) pe_int)) (pss_one (ps_ret (pe_op op_modM (pe_callTy call_intM (by rfl) T.z_int (by decide +kernel) (pa_cons (v_ 4) pa_nil)) (v_ 1))))))))))), ?_⟩
  refine ⟨fun σ' H' => σ' = [some (.ref st), some (.int many), none, none, none, none] ∧ ∃ i v m c, H' = upd H st (.lst (stv scr i v m c)) ∧ 0 ≤ i, ?_, ?_⟩
  · refine ⟨_, .inl (SqL.of hst), _, rfl, ?_⟩
    refine ite2 (fun e => ?_) (fun e => ?_)
    · refine ⟨_, .inl (SqL.of hst), _, rfl, _, .inl (SqL.of hst), _, rfl, .inl ⟨_, .inl (SqL.of hscr), ?_⟩⟩
      refine ite2 (fun e1 => ?_) (fun e1 => ?_)
      · have z := q 0 (stv scr i v m c) (by omega) hm0 (DrAt.upd hst hscr hl h0)
        rw [upd_id hst] at z
        exact z
      · have e2 := of_decide_eq_false (Bool.eq_false_iff.mpr e1)
        rw [List.length_map] at e2
        obtain ⟨z, hz⟩ : ∃ z, atI (ns.map V.int) i = some (.int z) := by
          have hi : i.toNat < ns.length := by omega
          refine ⟨ns[i.toNat], ?_⟩
          have hq : atI (ns.map V.int) ((i.toNat : Nat) : Int) = some (.int ns[i.toNat]) := atI_nat (by rw [List.getElem?_map, List.getElem?_eq_getElem hi]; rfl)
          rwa [show ((i.toNat : Nat) : Int) = i by omega] at hq
        refine ⟨_, .inl (SqL.of hst), _, rfl, _, .inl (SqL.of hst), _, rfl, _, .inl (SqL.of hscr), _, hz, ?_⟩
        refine ⟨_, _, _, 2, rfl, rfl, hst, rfl, ?_⟩
        refine ⟨_, .inl (SqL.of upd_same), _, rfl, ?_⟩
        refine ⟨_, _, _, 1, rfl, rfl, upd_same, rfl, ?_⟩
        refine ⟨_, _, _, 3, rfl, rfl, upd_same, rfl, ?_⟩
        refine ⟨_, _, _, 4, rfl, rfl, upd_same, rfl, ?_⟩
        refine ⟨_, .inl (SqL.of upd_same), _, rfl, (by unfold CPow; decide), ?_⟩
        refine ite2 (fun e3 => ?_) (fun e3 => ?_)
        · refine ⟨_, _, _, 3, rfl, rfl, upd_same, rfl, rfl, i + 1, z, 2, 0, ?_, by omega⟩
          rw [upd_upd, upd_upd, upd_upd, upd_upd]
          rfl
        · refine ⟨rfl, i + 1, z, 1, 0, ?_, by omega⟩
          rw [upd_upd, upd_upd, upd_upd]
          rfl
    · exact ⟨rfl, i, v, m, c, (upd_id hst).symm, h0⟩
  · rintro σ' H' ⟨rfl, i, v, m, c, rfl, h0⟩
    have hscr' : ∀ o, upd H st o scr = some (.lst (ns.map V.int)) := fun o => by rw [upd_ne hne]; exact hscr
    refine ⟨_, .inl (SqL.of upd_same), _, rfl, ?_⟩
    refine ⟨_, _, _, 4, rfl, rfl, upd_same, rfl, ?_⟩
    rw [upd_upd]
    refine ⟨_, .inl (SqL.of upd_same), _, rfl, ?_⟩
    refine ite2 (fun e => ?_) (fun e => ?_)
    · refine ⟨_, .inl (SqL.of upd_same), _, rfl, hm0, ?_⟩
      refine ⟨_, .inl (SqL.of upd_same), _, rfl, .inr (wide_div hm0 (b := 200) hm1 (by decide) (by decide)), ?_⟩
      refine ⟨_, _, _, 2, rfl, rfl, upd_same, rfl, ?_⟩
      rw [upd_upd]
      have fin : ∀ m' : Int, Q (.int (v % many)) (upd H st (.lst (stv scr i (v / many) m' (c + 1)))) := fun m' => q _ _ (Int.emod_nonneg _ (by omega)) (Int.emod_lt_of_pos _ hm0) (DrAt.upd hst hscr hl h0)
      refine ⟨fun σ' H' => σ' = [some (.ref st), some (.int many), none, none, none, some (.int (v % many))] ∧ ∃ m', H' = upd H st (.lst (stv scr i (v / many) m' (c + 1))), ?_, ?_⟩
      · refine ⟨_, .inl (SqL.of upd_same), _, rfl, ?_⟩
        refine ite2 (fun e1 => ?_) (fun e1 => ?_)
        · refine ⟨_, _, _, 3, rfl, rfl, upd_same, rfl, rfl, 0, ?_⟩
          rw [upd_upd]
          rfl
        · refine ⟨_, .inl (SqL.of upd_same), _, rfl, ?_⟩
          refine ite2 (fun e1 => ?_) (fun e1 => ?_)
          · refine ⟨_, _, _, 3, rfl, rfl, upd_same, rfl, rfl, 0, ?_⟩
            rw [upd_upd]
            rfl
          · exact ⟨rfl, m, rfl⟩
      · rintro σ' H' ⟨rfl, m', rfl⟩
        exact fin m'
    · refine ⟨_, .inl (SqL.of upd_same), _, rfl, .inl (.inr ⟨by decide, by decide⟩), ?_⟩
      refine ⟨_, .inl (SqL.of upd_same), _, rfl, .inl (.inr ⟨by decide, by decide⟩), (by decide), ?_⟩
      have f0 := Int.emod_nonneg (v * 48271 + (c + 1) * 69621) (by decide : (2147483647 : Int) ≠ 0)
      have f1 := Int.emod_lt_of_pos (v * 48271 + (c + 1) * 69621) (by decide : (0 : Int) < 2147483647)
      refine ⟨.inl (.inl ⟨by omega, by omega⟩), ?_⟩
      refine ⟨_, .inl (SqL.of upd_same), _, rfl, .inl (.inr ⟨by decide, by decide⟩), (by decide), ?_⟩
      have fin : ∀ (m' x : Int), Q (.int (x % many)) (upd H st (.lst (stv scr i v m' (c + 1)))) := fun m' x => q _ _ (Int.emod_nonneg _ (by omega)) (Int.emod_lt_of_pos _ hm0) (DrAt.upd hst hscr hl h0)
      refine ⟨fun σ' H' => (∃ a b, σ' = [some (.ref st), some (.int many), some (.int a), some (.int b), none, none]) ∧ ∃ m', H' = upd H st (.lst (stv scr i v m' (c + 1))), ?_, ?_⟩
      · refine ⟨_, .inl (SqL.of upd_same), _, rfl, ?_⟩
        refine ite2 (fun e1 => ?_) (fun e1 => ?_)
        · refine ⟨_, _, _, 3, rfl, rfl, upd_same, rfl, ⟨_, _, rfl⟩, 0, ?_⟩
          rw [upd_upd]
          rfl
        · exact ⟨⟨_, _, rfl⟩, m, rfl⟩
      · rintro σ' H' ⟨⟨a, b, rfl⟩, m', rfl⟩
        refine ⟨.inl (.inr ⟨by decide, by decide⟩), (by decide), hm0, ?_⟩
        exact fin m' _

/-! ### _law_state -/
def sp__law_state (K : PySem.W.Frag) : Sp := fun vs H Q _ => ∃ (a : Addr) (ns : List Int), vs = [.ref a] ∧ SqL K H a (ns.map V.int) ∧ ns.length ≤ 63 ∧
  ∀ (H' : Hp) (st scr : Addr), Same H H' → H st = none → H scr = none → DrAt H' st scr → Q (.ref st) H'
theorem len__law_state {vs : List V} {H : Hp} {Q : VK} {E : XK} (h : sp__law_state K vs H Q E) : vs.length = 1 := by
  obtain ⟨_, _, rfl, _⟩ := h
  rfl
theorem ok__law_state {f : Addr} {fd : FuncData} (F : Fun K "_law_state" "_law_state" s__law_state f fd) (T : Gs K mg t_BOUND t_LETTERS t_LONGEST_NAME a_RESERVED a_BadName a_BadNumber a_Change a_ElseputError a_TooLarge a_UnknownField) : FnOk P w K mg base CX0 1 f fd ["_law_script"] (sp__law_state K) := by
  refine F.ok sc__law_state (fun vs H Q E h => len__law_state h) (fun cdv A outer s H vs Q E hr h => ?_)
  obtain ⟨a, ns, rfl, hS, hl, q⟩ := h
  refine ⟨_, (pss_one (ps_ret (pe_lst (pa_cons (pe_callTy (listK K) (by rfl) T.z_list (by decide +kernel) (pa_cons (v_ 0) pa_nil)) (pa_cons pe_int (pa_cons pe_int (pa_cons pe_int (pa_cons pe_int pa_nil)))))))), ?_⟩
  refine ⟨_, _, rfl, .inl hS, fun l nl => ?_⟩
  refine ⟨(by show 5 ≤ sizeLine; decide), fun st nst => ?_⟩
  have hne := new_ne nst
  refine q _ st l ((same_new nl).trans (same_new nst)) (free_new nst) nl ⟨ns, 0, 0, 0, 0, upd_same, ?_, hl, by omega⟩
  rw [upd_ne hne.symm, upd_same]

/-! ### _law_pick -/
theorem at_list {α : Type} {xs : List α} {r : Int} (h0 : 0 ≤ r) (h1 : r < xs.length) : ∃ x, atI xs r = some x ∧ x ∈ xs := by
  have hi : r.toNat < xs.length := by omega
  refine ⟨xs[r.toNat], ?_, List.getElem_mem hi⟩
  have hq : atI xs ((r.toNat : Nat) : Int) = some xs[r.toNat] := atI_nat (List.getElem?_eq_getElem hi)
  rwa [show ((r.toNat : Nat) : Int) = r by omega] at hq
theorem at_str {z : Str} {r : Int} (h0 : 0 ≤ r) (h1 : r < z.length) : ∃ c, atI z.cps.toList r = some c ∧ c ∈ z.cps.toList := at_list h0 (by rw [len_cps]; exact h1)
theorem many_small {m : Int} (h0 : 0 < m) (h1 : m ≤ 1000000000) : m.natAbs < 2 ^ 200 := Nat.lt_of_le_of_lt (show m.natAbs ≤ 2 ^ 30 by omega) (Nat.pow_lt_pow_right (by decide) (by decide))
def sp__law_pick (K : PySem.W.Frag) : Sp := fun vs H Q _ => ∃ (st scr : Addr) (v : V), vs = [.ref st, v] ∧ DrAt H st scr ∧
  ((∃ z : Str, v = .str z ∧ 0 < z.length ∧ z.length ≤ 1000 ∧ ∀ (c : Nat) (l : List V), c ∈ z.cps.toList → DrAt (upd H st (.lst l)) st scr → Q (.str ⟨#[c]⟩) (upd H st (.lst l))) ∨
    ∃ (p : Addr) (xs : List V), v = .ref p ∧ H p = some (.lst xs) ∧ p ≠ st ∧ 0 < xs.length ∧ xs.length ≤ 1000 ∧ ∀ (x : V) (l : List V), x ∈ xs → DrAt (upd H st (.lst l)) st scr → Q x (upd H st (.lst l)))
theorem len__law_pick {vs : List V} {H : Hp} {Q : VK} {E : XK} (h : sp__law_pick K vs H Q E) : vs.length = 2 := by
  obtain ⟨_, _, _, rfl, _⟩ := h
  rfl
theorem ok__law_pick {f : Addr} {fd : FuncData} {f__law_draw : Addr} {fd__law_draw : FuncData} (F : Fun K "_law_pick" "_law_pick" s__law_pick f fd) (T : Gs K mg t_BOUND t_LETTERS t_LONGEST_NAME a_RESERVED a_BadName a_BadNumber a_Change a_ElseputError a_TooLarge a_UnknownField) (c__law_draw : Cal P w K mg base CX0 1 "_law_draw" f__law_draw fd__law_draw ["_law_state_here", "_law_many"] (sp__law_draw K)) : FnOk P w K mg base CX0 2 f fd ["_law_state_here", "_law_row"] (sp__law_pick K) := by
  refine F.ok sc__law_pick (fun vs H Q E h => len__law_pick h) (fun cdv A outer s H vs Q E hr h => ?_)
  obtain ⟨st, scr, v, rfl, hd, h⟩ := h
  refine ⟨_, (pss_one (ps_ret (e_x K (v_ 1) (pe_call c__law_draw.G (hr.mono (by first | decide | omega)) rfl c__law_draw.m c__law_draw.kp c__law_draw.b .nil pass0 (pa_cons (v_ 0) (pa_cons (pe_callB (lenK K) (by rfl) T.z_len PySem.boot_len (pa_cons (v_ 1) pa_nil)) pa_nil)))))), ?_⟩
  rcases h with ⟨z, rfl, h0, h1, q⟩ | ⟨p, xs, rfl, hp, hne, h0, h1, q⟩
  · refine ⟨line_of (by omega), st, scr, _, rfl, hd, by omega, many_small (by omega) (by omega), fun r l r0 r1 hd' => ?_⟩
    obtain ⟨c, hc, hm⟩ := at_str r0 r1
    exact ⟨line_of (by omega), c, hc, q c l hm hd'⟩
  · refine .inl ⟨_, .inl (SqL.of hp), st, scr, _, rfl, hd, by omega, many_small (by omega) (by omega), fun r l r0 r1 hd' => ?_⟩
    obtain ⟨x, hx, hm⟩ := at_list r0 r1
    exact ⟨_, .inl (SqL.of (by rw [upd_ne hne]; exact hp)), x, hx, q x l hm hd'⟩

/-! ### _law_mixed -/
theorem cutV_take (xs : List V) {k : Int} (h : 0 ≤ k) : cutV xs none (some k) = xs.take k.toNat := by
  unfold cutV
  have e := HT.sIx_nat xs.length xs.length k.toNat
  rw [show ((k.toNat : Nat) : Int) = k by omega] at e
  rw [e, HT.sIx_none, List.drop_zero]
  by_cases hk : k.toNat ≤ xs.length
  · rw [Nat.min_eq_left hk, Nat.sub_zero]
  · rw [Nat.min_eq_right (by omega), Nat.sub_zero, List.take_length, List.take_of_length_le (by omega)]
theorem cutV_drop (xs : List V) {k : Int} (h : 0 ≤ k) : cutV xs (some k) none = xs.drop k.toNat := by
  unfold cutV
  have e := HT.sIx_nat xs.length 0 k.toNat
  rw [show ((k.toNat : Nat) : Int) = k by omega] at e
  rw [e, HT.sIx_none]
  by_cases hk : k.toNat ≤ xs.length
  · rw [Nat.min_eq_left hk, List.take_of_length_le (by rw [List.length_drop]; omega)]
  · rw [Nat.min_eq_right (by omega), List.drop_of_length_le (Nat.le_refl _), List.drop_of_length_le (by omega)]
    exact List.take_nil
def sp__law_mixed (K : PySem.W.Frag) : Sp := fun vs H Q _ => ∃ (st scr p : Addr) (xs : List V), vs = [.ref st, .ref p] ∧ DrAt H st scr ∧ H p = some (.lst xs) ∧ p ≠ st ∧ xs.length ≤ 1000 ∧
  ∀ (H' : Hp) (r : Addr) (ys : List V), Bt st H H' → DrAt H' st scr → H r = none → H' r = some (.lst ys) → ys.Perm xs → Q (.ref r) H'
theorem len__law_mixed {vs : List V} {H : Hp} {Q : VK} {E : XK} (h : sp__law_mixed K vs H Q E) : vs.length = 2 := by
  obtain ⟨_, _, _, _, rfl, _⟩ := h
  rfl
theorem ok__law_mixed {f : Addr} {fd : FuncData} {f__law_draw : Addr} {fd__law_draw : FuncData} (F : Fun K "_law_mixed" "_law_mixed" s__law_mixed f fd) (T : Gs K mg t_BOUND t_LETTERS t_LONGEST_NAME a_RESERVED a_BadName a_BadNumber a_Change a_ElseputError a_TooLarge a_UnknownField) (c__law_draw : Cal P w K mg base CX0 1 "_law_draw" f__law_draw fd__law_draw ["_law_state_here", "_law_many"] (sp__law_draw K)) : FnOk P w K mg base CX0 2 f fd ["_law_state_here", "_law_row"] (sp__law_mixed K) := by
  refine F.ok sc__law_mixed (fun vs H Q E h => len__law_mixed h) (fun cdv A outer s H vs Q E hr h => ?_)
  obtain ⟨st, scr, p, xs, rfl, hd, hp, hne, hl, q⟩ := h
  refine ⟨_, (pss_cons (ps_set (i := 2) sc__law_mixed.nd rfl (.inl rfl) (pe_callTy (listK K) (by rfl) T.z_list (by decide +kernel) (pa_cons (v_ 1) pa_nil))) (pss_cons (ps_set (i := 3) sc__law_mixed.nd rfl (.inl rfl) (pe_lst pa_nil)) (pss_cons (ps_for PassesOwn.never rfl (pi_range1 rfl T.z_range (pa_cons (pe_callB (lenK K) (by rfl) T.z_len PySem.boot_len (pa_cons (v_ 1) pa_nil)) pa_nil)) (pg_name (i := 4) sc__law_mixed.nd rfl (.inl rfl)) (pss_cons (ps_set (i := 5) sc__law_mixed.nd rfl (.inl rfl) (pe_call c__law_draw.G (hr.mono (by first | decide | omega)) rfl c__law_draw.m c__law_draw.kp c__law_draw.b .nil pass0 (pa_cons (v_ 0) (pa_cons (pe_callB (lenK K) (by rfl) T.z_len PySem.boot_len (pa_cons (v_ 2) pa_nil)) pa_nil)))) (pss_cons (ps_expr (pe_bm PySem.F.plainAttrs_list PySem.F.slot_list_append PySem.F.type_list_append mt_append (v_ 3) (pa_cons (e_x K (v_ 2) (v_ 5)) pa_nil))) (pss_one (ps_set (i := 2) sc__law_mixed.nd rfl (.inl rfl) (pe_op (addK K) (pe_slice (slK K) (v_ 2) po_none (po_some (v_ 5))) (pe_slice (slK K) (v_ 2) (po_some (pe_op (addK K) (v_ 5) pe_int)) po_none))))))) (pss_one (ps_ret (v_ 3)))))), ?_⟩
  refine ⟨_, _, rfl, .inl (SqL.of hp), fun t nt => ?_⟩
  refine ⟨Nat.zero_le _, fun r nr => ?_⟩
  have tr := new_ne nr
  have hr0 := free_new nr
  have hd0 := (hd.new (same_new (o := .lst xs) nt)).new (same_new (o := .lst []) nr)
  have ts : t ≠ st := hd.ne_new nt
  have rs : r ≠ st := hd.ne_new hr0
  have rc : r ≠ scr := hd.ne_scr hr0
  refine .inl ⟨_, .inl (SqL.of (by rw [upd_ne (ne_of_none hp hr0), upd_ne (ne_of_none hp nt)]; exact hp)), xs.length, rfl, by omega, by omega, ?_⟩
  refine for_range (lo := 0) (n := xs.length) (fun i σ' H' => ∃ (t : Addr) (rest ys : List V) (y z : Option V), σ' = [some (.ref st), some (.ref p), some (.ref t), some (.ref r), y, z] ∧ Bt st H H' ∧ DrAt H' st scr ∧ t ≠ st ∧ t ≠ r ∧ H' t = some (.lst rest) ∧ H' r = some (.lst ys) ∧ rest.length + i = xs.length ∧ ys.length = i ∧ (rest ++ ys).Perm xs) ?_ ?_ ?_
  · exact ⟨t, xs, [], _, _, rfl, .same ((same_new nt).trans (same_new nr)), hd0, ts, tr.symm, by rw [upd_ne tr.symm, upd_same], upd_same, rfl, rfl, by rw [List.append_nil]⟩
  · rintro i σ' H' hi ⟨t, rest, ys, y, z, rfl, bt, hd, ts, tr, ht, hr, l1, l2, m1⟩
    refine .inl ⟨_, .inl (SqL.of ht), st, scr, _, rfl, hd, by omega, many_small (by omega) (by omega), fun a l a0 a1 hd' => ?_⟩
    have ht1 : upd H' st (.lst l) t = some (.lst rest) := by rw [upd_ne ts]; exact ht
    have hr1 : upd H' st (.lst l) r = some (.lst ys) := by rw [upd_ne rs]; exact hr
    obtain ⟨x, hx, hm⟩ := at_list a0 a1
    refine ⟨.inl ⟨rfl, _, SqL.of hr1⟩, _, .inl (SqL.of ht1), x, hx, r, ys, x, rfl, rfl, hr1, line_lt (by omega), ?_⟩
    have hd2 := hd'.at (o := .lst (ys ++ [x])) rs rc
    have ht2 : upd (upd H' st (.lst l)) r (.lst (ys ++ [x])) t = some (.lst rest) := by rw [upd_ne tr]; exact ht1
    refine ⟨a, rfl, .inl ⟨rest, SqL.of ht2, fun u nu => ?_⟩⟩
    rw [cutV_take _ a0]
    have ht3 := same_new (o := .lst (rest.take a.toNat)) nu _ _ ht2
    refine ⟨a + 1, rfl, .inl ⟨rest, SqL.of ht3, fun v nv => ?_⟩⟩
    rw [cutV_drop _ (by omega)]
    have hu := same_new (o := .lst (rest.drop (a + 1).toNat)) nv _ _ (upd_same (H := upd (upd H' st (.lst l)) r (.lst (ys ++ [x]))) (a := u) (o := .lst (rest.take a.toNat)))
    refine .inl ⟨_, _, hu, upd_same, line_of (by rw [List.length_take, List.length_drop]; omega), fun k nk => ?_⟩
    have sm := ((same_new (o := .lst (rest.take a.toNat)) nu).trans (same_new (o := .lst (rest.drop (a + 1).toNat)) nv)).trans (same_new (o := .lst (rest.take a.toNat ++ rest.drop (a + 1).toNat)) nk)
    have hd3 := hd2.new sm
    have kn := free_new (free_new nk)
    refine ⟨k, _, ys ++ [x], _, _, rfl, ?_, hd3, hd2.ne_new kn, (ne_of_none upd_same kn).symm, upd_same, sm _ _ upd_same, ?_, by rw [List.length_append, l2]; rfl, ?_⟩
    · intro b o nb hb
      refine sm _ _ ?_
      have := bt b o nb hb
      rw [upd_ne (ne_of_none hb hr0), upd_ne nb]
      exact this
    · rw [List.length_append, List.length_take, List.length_drop]
      omega
    · have hx' : rest[a.toNat]? = some x := by
        obtain ⟨x', e1, e2⟩ : ∃ x', rest[a.toNat]? = some x' ∧ atI rest a = some x' := by
          have hlt : a.toNat < rest.length := by omega
          refine ⟨_, List.getElem?_eq_getElem hlt, ?_⟩
          have := atI_nat (List.getElem?_eq_getElem hlt)
          rwa [show ((a.toNat : Nat) : Int) = a by omega] at this
        rw [hx] at e2
        cases e2
        exact e1
      have hr' : rest = rest.take a.toNat ++ x :: rest.drop (a + 1).toNat := by
        obtain ⟨h1, h2⟩ := List.getElem?_eq_some_iff.mp hx'
        rw [show (a + 1).toNat = a.toNat + 1 by omega, ← h2, ← List.drop_eq_getElem_cons h1, List.take_append_drop]
      refine List.Perm.trans ?_ m1
      rw [← List.append_assoc]
      have p1 : (rest.take a.toNat ++ rest.drop (a + 1).toNat ++ ys ++ [x]).Perm (rest.take a.toNat ++ (x :: rest.drop (a + 1).toNat) ++ ys) := by
        refine (List.perm_append_comm (l₁ := rest.take a.toNat ++ rest.drop (a + 1).toNat ++ ys) (l₂ := [x])).trans ?_
        rw [List.append_assoc, List.append_assoc]
        exact (List.perm_middle (a := x) (l₁ := rest.take a.toNat) (l₂ := rest.drop (a + 1).toNat ++ ys)).symm
      rw [← hr'] at p1
      exact p1
  · rintro σ' H' ⟨t, rest, ys, y, z, rfl, bt, hd, ts, tr, ht, hr, l1, l2, m1⟩
    refine q H' r ys bt hd hr0 hr ?_
    have : rest = [] := List.eq_nil_of_length_eq_zero (by omega)
    rw [this] at m1
    exact m1
end
section
variable {P : Program} {w : World} {K : PySem.W.Frag} {mg : Str → Option Value} {base : Heap}
variable {t_BOUND t_LETTERS t_LONGEST_NAME : Tok} {a_RESERVED a_BadName a_BadNumber a_Change a_ElseputError a_TooLarge a_UnknownField : Addr}
/-! ### _law_same -/
def sp__law_is_int (K : PySem.W.Frag) : Sp := fun vs H Q _ => ∃ i : Int, vs = [.int i] ∧ Q (.bl true) H
theorem len__law_is_int {vs : List V} {H : Hp} {Q : VK} {E : XK} (h : sp__law_is_int K vs H Q E) : vs.length = 1 := by
  obtain ⟨_, rfl, _⟩ := h
  rfl
theorem ok__law_is_int {f : Addr} {fd : FuncData} (F : Fun K "_law_is_int" "_law_is_int" s__law_is_int f fd) (T : Gs K mg t_BOUND t_LETTERS t_LONGEST_NAME a_RESERVED a_BadName a_BadNumber a_Change a_ElseputError a_TooLarge a_UnknownField) : FnOk P w K mg base CX0 1 f fd ["_law_thing"] (sp__law_is_int K) := by
  refine F.ok sc__law_is_int (fun vs H Q E h => len__law_is_int h) (fun cdv A outer s H vs Q E hr h => ?_)
  obtain ⟨i, rfl, q⟩ := h
  refine ⟨_, (pss_one (ps_ret (pe_andM (pe_callB (isiK K) (by rfl) T.z_isinstance (by decide +kernel) (pa_cons (v_ 0) (pa_cons (pe_bltn (v := .ty "int") (u := .type "int") (by rfl) T.z_int (by decide +kernel) rfl) pa_nil))) (pe_one (pe_notM (pe_callB (isiK K) (by rfl) T.z_isinstance (by decide +kernel) (pa_cons (v_ 0) (pa_cons (pe_bltn (v := .ty "bool") (u := .type "bool") (by rfl) T.z_bool (by decide +kernel) rfl) pa_nil)))))))), ?_⟩
  refine ⟨_, _, _, _, true, rfl, .ty _, .base (.int i), kit_ty (by decide +kernel), ?_⟩
  exact ⟨_, _, _, _, false, rfl, .ty _, .base (.int i), kit_ty (by decide +kernel), q⟩
def SameV (H : Hp) : Nat → V → V → Prop
  | 0, _, _ => False
  | n + 1, x, y => (∃ i : Int, x = .int i ∧ y = .int i) ∨ (∃ z : Str, x = .str z ∧ y = .str z) ∨ (∃ (p q : Addr) (xs ys : List V), x = .ref p ∧ y = .ref q ∧ ((H p = some (.lst xs) ∧ H q = some (.lst ys)) ∨ (H p = some (.tup xs) ∧ H q = some (.tup ys))) ∧
      xs.length = ys.length ∧ ys.length ≤ 1000 ∧ ∀ (i : Nat) (a b : V), xs[i]? = some a → ys[i]? = some b → SameV H n a b) ∨
      ∃ (p q : Addr) (ks ls : Ct), x = .ref p ∧ y = .ref q ∧ H p = some (.dK ks) ∧ H q = some (.dK ls) ∧ ks.length = ls.length ∧ n ≠ 0 ∧ ∀ (i : Nat) (k : Key) (v : V), ls[i]? = some (k, v) → ∃ m : Int, valV ls k = some (.int m) ∧ valV ks k = some (.int m)
def spSame (n : Nat) : Sp := fun vs H Q _ => ∃ x y : V, vs = [x, y] ∧ SameV H n x y ∧ Q (.bl true) H
theorem len_same {n : Nat} {vs : List V} {H : Hp} {Q : VK} {E : XK} (h : spSame n vs H Q E) : vs.length = 2 := by
  obtain ⟨_, _, rfl, _⟩ := h
  rfl
theorem same_step {n k : Nat} {f : Addr} {fd : FuncData} {f__law_is_int : Addr} {fd__law_is_int : FuncData} (F : Fun K "_law_same" "_law_same" s__law_same f fd) (T : Gs K mg t_BOUND t_LETTERS t_LONGEST_NAME a_RESERVED a_BadName a_BadNumber a_Change a_ElseputError a_TooLarge a_UnknownField)
    (c__law_is_int : Cal P w K mg base CX0 1 "_law_is_int" f__law_is_int fd__law_is_int ["_law_thing"] (sp__law_is_int K)) (c__law_same : Cal P w K mg base CX0 k "_law_same" f fd ["_law_actual", "_law_due"] (spSame n)) (hk : 1 ≤ k) : FnOk P w K mg base CX0 (k + 1) f fd ["_law_actual", "_law_due"] (spSame (n + 1)) := by
  refine F.ok sc__law_same (fun vs H Q E h => len_same h) (fun cdv A outer s H vs Q E hr h => ?_)
  obtain ⟨x, y, rfl, h, q⟩ := h
  refine ⟨_, (pss_cons (ps_if (pt_c op_isM (v_ 1) pe_non) (pss_one (ps_ret (pe_c op_isM (v_ 0) pe_non))) pss_nil) (pss_cons (ps_if (pt_c op_isM (v_ 1) pe_bl) (pss_one (ps_ret (pe_c op_isM (v_ 0) pe_bl))) pss_nil) (pss_cons (ps_if (pt_c op_isM (v_ 1) pe_bl) (pss_one (ps_ret (pe_c op_isM (v_ 0) pe_bl))) pss_nil) (pss_cons (ps_if (pt_t K (pe_callB (isiK K) (by rfl) T.z_isinstance (by decide +kernel) (pa_cons (v_ 1) (pa_cons (pe_bltn (v := .ty "int") (u := .type "int") (by rfl) T.z_int (by decide +kernel) rfl) pa_nil)))) (pss_one (ps_ret (pe_andM (pe_call c__law_is_int.G (hr.mono (by first | decide | omega)) rfl c__law_is_int.m c__law_is_int.kp c__law_is_int.b .nil pass0 (pa_cons (v_ 0) pa_nil)) (pe_one (pe_c (eqK K hr.units) (v_ 0) (v_ 1)))))) pss_nil) (pss_cons (ps_if (pt_t K (pe_callB (isiK K) (by rfl) T.z_isinstance (by decide +kernel) (pa_cons (v_ 1) (pa_cons (pe_bltn (v := .ty "str") (u := .type "str") (by rfl) T.z_str (by decide +kernel) rfl) pa_nil)))) (pss_one (ps_ret (pe_andM (pe_callB (isiK K) (by rfl) T.z_isinstance (by decide +kernel) (pa_cons (v_ 0) (pa_cons (pe_bltn (v := .ty "str") (u := .type "str") (by rfl) T.z_str (by decide +kernel) rfl) pa_nil))) (pe_one (pe_c (eqK K hr.units) (v_ 0) (v_ 1)))))) pss_nil) (pss_cons (ps_if (pt_t K (pe_callB (isiK K) (by rfl) T.z_isinstance (by decide +kernel) (pa_cons (v_ 1) (pa_cons (pe_bltn (v := .ty "dict") (u := .type "dict") (by rfl) T.z_dict (by decide +kernel) rfl) pa_nil)))) (pss_cons (ps_if (PW.pt (pw_or (pt_not (pt_t K (pe_callB (isiK K) (by rfl) T.z_isinstance (by decide +kernel) (pa_cons (v_ 0) (pa_cons (pe_bltn (v := .ty "dict") (u := .type "dict") (by rfl) T.z_dict (by decide +kernel) rfl) pa_nil))))) (pw_or1 (pt_c (neK K hr.units) (pe_callB (lenK K) (by rfl) T.z_len PySem.boot_len (pa_cons (v_ 0) pa_nil)) (pe_callB (lenK K) (by rfl) T.z_len PySem.boot_len (pa_cons (v_ 1) pa_nil)))))) (pss_one (ps_ret pe_bl)) pss_nil) (pss_cons (ps_lock (ps_for PassesOwn.never rfl (pi_keys (v_ 1)) (pg_name (i := 3) sc__law_same.nd rfl (.inl rfl)) (pss_one (ps_if (PW.pt (pw_or (pt_cmp (pc_dnotin (hu_of hr) (v_ 3) (v_ 0))) (pw_or1 (pt_not (pt_t K (pe_call c__law_same.G (hr.mono (by first | decide | omega)) rfl c__law_same.m c__law_same.kp c__law_same.b .nil pass0 (pa_cons (pe_dget (hu_of hr) (v_ 0) (v_ 3) (fun _ _ => rfl)) (pa_cons (pe_dget (hu_of hr) (v_ 1) (v_ 3) (fun _ _ => rfl)) pa_nil)))))))) (pss_one (ps_ret pe_bl)) pss_nil)))) (pss_one (ps_ret pe_bl)))) pss_nil) (pss_cons (ps_if (PW.pt (pw_and (pt_t K (pe_callB (isiK K) (by rfl) T.z_isinstance (by decide +kernel) (pa_cons (v_ 1) (pa_cons (pe_bltn (v := .ty "list") (u := .type "list") (by rfl) T.z_list (by decide +kernel) rfl) pa_nil)))) (pw_and1 (pt_not (pt_t K (pe_callB (isiK K) (by rfl) T.z_isinstance (by decide +kernel) (pa_cons (v_ 0) (pa_cons (pe_bltn (v := .ty "list") (u := .type "list") (by rfl) T.z_list (by decide +kernel) rfl) pa_nil)))))))) (pss_one (ps_ret pe_bl)) pss_nil) (pss_cons (ps_if (PW.pt (pw_and (pt_t K (pe_callB (isiK K) (by rfl) T.z_isinstance (by decide +kernel) (pa_cons (v_ 1) (pa_cons (pe_bltn (v := .ty "tuple") (u := .type "tuple") (by rfl) T.z_tuple (by decide +kernel) rfl) pa_nil)))) (pw_and1 (pt_not (pt_t K (pe_callB (isiK K) (by rfl) T.z_isinstance (by decide +kernel) (pa_cons (v_ 0) (pa_cons (pe_bltn (v := .ty "tuple") (u := .type "tuple") (by rfl) T.z_tuple (by decide +kernel) rfl) pa_nil)))))))) (pss_one (ps_ret pe_bl)) pss_nil) (pss_cons (ps_if (pt_c (neK K hr.units) (pe_callB (lenK K) (by rfl) T.z_len PySem.boot_len (pa_cons (v_ 0) pa_nil)) (pe_callB (lenK K) (by rfl) T.z_len PySem.boot_len (pa_cons (v_ 1) pa_nil))) (pss_one (ps_ret pe_bl)) pss_nil) (pss_cons (ps_for PassesOwn.never rfl (pi_range1 rfl T.z_range (pa_cons (pe_callB (lenK K) (by rfl) T.z_len PySem.boot_len (pa_cons (v_ 1) pa_nil)) pa_nil)) (pg_name (i := 2) sc__law_same.nd rfl (.inl rfl)) (pss_one (ps_if (pt_not (pt_t K (pe_call c__law_same.G (hr.mono (by first | decide | omega)) rfl c__law_same.m c__law_same.kp c__law_same.b .nil pass0 (pa_cons (e_x K (v_ 0) (v_ 2)) (pa_cons (e_x K (v_ 1) (v_ 2)) pa_nil))))) (pss_one (ps_ret pe_bl)) pss_nil))) (pss_one (ps_ret pe_bl)))))))))))), ?_⟩
  rcases h with ⟨i, rfl, rfl⟩ | ⟨z, rfl, rfl⟩ | ⟨a, b, xs, ys, rfl, rfl, hh, hl, h1, hs⟩ | ⟨a, b, ks, ls, rfl, rfl, ha, hb, hl, hn, hs⟩
  · refine ⟨_, _, _, _, true, rfl, .ty _, .base (.int i), kit_ty (by decide +kernel), ?_⟩
    refine ⟨i, rfl, ?_⟩
    have e : decide (i = i) = true := decide_eq_true rfl
    rw [← e] at q
    exact q
  · refine ⟨_, _, _, _, false, rfl, .ty _, .base (.str z), kit_ty (by decide +kernel), ?_⟩
    refine ⟨_, _, _, _, true, rfl, .ty _, .base (.str z), kit_ty (by decide +kernel), ?_⟩
    refine ⟨_, _, _, _, true, rfl, .ty _, .base (.str z), kit_ty (by decide +kernel), ?_⟩
    have e : decide (z = z) = true := decide_eq_true rfl
    rw [← e] at q
    exact q
  · rcases hh with ⟨ha, hb⟩ | ⟨ha, hb⟩
    · have tb : TyX K H (.ref b) (.type "list") := .base (.lst hb)
      refine ⟨_, _, _, _, false, rfl, .ty _, tb, kit_ty (by decide +kernel), ?_⟩
      refine ⟨_, _, _, _, false, rfl, .ty _, tb, kit_ty (by decide +kernel), ?_⟩
      refine ⟨_, _, _, _, false, rfl, .ty _, tb, kit_ty (by decide +kernel), ?_⟩
      refine ⟨_, _, _, _, true, rfl, .ty _, tb, kit_ty (by decide +kernel), ?_⟩
      refine ⟨_, _, _, _, true, rfl, .ty _, .base (.lst ha), kit_ty (by decide +kernel), ?_⟩
      refine ⟨_, _, _, _, false, rfl, .ty _, tb, kit_ty (by decide +kernel), ?_⟩
      refine .inl ⟨_, .inl (SqL.of ha), .inl ⟨_, .inl (SqL.of hb), ?_⟩⟩
      refine ite2 (fun e => ?_) (fun _ => ?_)
      · exact absurd e (by rw [hl]; simp)
      refine .inl ⟨_, .inl (SqL.of hb), _, rfl, by omega, by omega, ?_⟩
      refine for_range (lo := 0) (n := ys.length) (fun i σ' H' => H' = H ∧ ∃ y, σ' = [some (.ref a), some (.ref b), y, none]) ⟨rfl, _, rfl⟩ ?_ ?_
      · rintro i σ' H' hi ⟨rfl, y, rfl⟩
        have ex := List.getElem?_eq_getElem (l := xs) (i := i) (by omega)
        have ey := List.getElem?_eq_getElem (l := ys) hi
        refine ⟨_, .inl (SqL.of ha), xs[i], ?_, _, .inl (SqL.of hb), ys[i], ?_, _, _, rfl, hs i _ _ ex ey, ?_⟩
        · rw [show (0 : Int) + i = ((i : Nat) : Int) by omega]
          exact atI_nat ex
        · rw [show (0 : Int) + i = ((i : Nat) : Int) by omega]
          exact atI_nat ey
        exact ⟨rfl, _, rfl⟩
      · rintro σ' H' ⟨rfl, y, rfl⟩
        exact q
    · have tb : TyX K H (.ref b) (.type "tuple") := .base (.tup hb)
      refine ⟨_, _, _, _, false, rfl, .ty _, tb, kit_ty (by decide +kernel), ?_⟩
      refine ⟨_, _, _, _, false, rfl, .ty _, tb, kit_ty (by decide +kernel), ?_⟩
      refine ⟨_, _, _, _, false, rfl, .ty _, tb, kit_ty (by decide +kernel), ?_⟩
      refine ⟨_, _, _, _, false, rfl, .ty _, tb, kit_ty (by decide +kernel), ?_⟩
      refine ⟨_, _, _, _, true, rfl, .ty _, tb, kit_ty (by decide +kernel), ?_⟩
      refine ⟨_, _, _, _, true, rfl, .ty _, .base (.tup ha), kit_ty (by decide +kernel), ?_⟩
      refine .inl ⟨_, .inr (SqT.of ha), .inl ⟨_, .inr (SqT.of hb), ?_⟩⟩
      refine ite2 (fun e => ?_) (fun _ => ?_)
      · exact absurd e (by rw [hl]; simp)
      refine .inl ⟨_, .inr (SqT.of hb), _, rfl, by omega, by omega, ?_⟩
      refine for_range (lo := 0) (n := ys.length) (fun i σ' H' => H' = H ∧ ∃ y, σ' = [some (.ref a), some (.ref b), y, none]) ⟨rfl, _, rfl⟩ ?_ ?_
      · rintro i σ' H' hi ⟨rfl, y, rfl⟩
        have ex := List.getElem?_eq_getElem (l := xs) (i := i) (by omega)
        have ey := List.getElem?_eq_getElem (l := ys) hi
        refine ⟨_, .inr (SqT.of ha), xs[i], ?_, _, .inr (SqT.of hb), ys[i], ?_, _, _, rfl, hs i _ _ ex ey, ?_⟩
        · rw [show (0 : Int) + i = ((i : Nat) : Int) by omega]
          exact atI_nat ex
        · rw [show (0 : Int) + i = ((i : Nat) : Int) by omega]
          exact atI_nat ey
        exact ⟨rfl, _, rfl⟩
      · rintro σ' H' ⟨rfl, y, rfl⟩
        exact q
  · have tb : TyX K H (.ref b) (.type "dict") := .base (.dK hb)
    refine ⟨_, _, _, _, false, rfl, .ty _, tb, kit_ty (by decide +kernel), ?_⟩
    refine ⟨_, _, _, _, false, rfl, .ty _, tb, kit_ty (by decide +kernel), ?_⟩
    refine ⟨_, _, _, _, true, rfl, .ty _, tb, kit_ty (by decide +kernel), ?_⟩
    refine ⟨_, _, _, _, true, rfl, .ty _, .base (.dK ha), kit_ty (by decide +kernel), ?_⟩
    refine .inr ⟨_, ha, .inr ⟨_, hb, ?_⟩⟩
    refine ite2 (fun e => absurd e (by rw [hl]; simp)) (fun _ => ?_)
    refine ⟨b, .dK ls, hb, True.intro, fun od => ?_⟩
    refine ⟨b, od, rfl, .inl ⟨ls, upd_same, ?_⟩⟩
    have rb : Rd (upd H b (.frz od (.dK ls))) b (.dK ls) := .inr ⟨od, upd_same⟩
    have ra : ∃ ks', ks' = ks ∧ Rd (upd H b (.frz od (.dK ls))) a (.dK ks') := by
      by_cases e : a = b
      · rw [e, hb] at ha
        cases ha
        exact ⟨_, rfl, e ▸ rb⟩
      · exact ⟨ks, rfl, .inl (by rw [upd_ne e]; exact ha)⟩
    obtain ⟨_, rfl, ra⟩ := ra
    refine for_it walk_keys (fun i σ' H' => H' = upd H b (.frz od (.dK ls)) ∧ ∃ y, σ' = [some (.ref a), some (.ref b), none, y]) ⟨rfl, _, rfl⟩ (fun i σ' H' _ h => by rw [h.1]; exact upd_same) ?_ ?_
    · rintro i x σ' H2 H3 hi ⟨rfl, y, rfl⟩ ⟨rfl, k, v, hk, rfl⟩
      obtain ⟨m, h1, h2⟩ := hs i k v hk
      have ga : DGet (upd H b (.frz od (.dK ls))) a (kV k) (some (.int m)) := .inl ⟨_, k, ra, rfl, h2.symm⟩
      have gb : DGet (upd H b (.frz od (.dK ls))) b (kV k) (some (.int m)) := .inl ⟨_, k, rb, rfl, h1.symm⟩
      refine ⟨a, _, rfl, ga, _, rfl, ?_⟩
      refine ⟨a, _, rfl, ga, b, _, rfl, gb, _, _, rfl, ?_, ?_⟩
      · cases n with
        | zero => exact absurd rfl hn
        | succ n => exact .inl ⟨m, rfl, rfl⟩
      · exact ⟨rfl, _, rfl⟩
    · rintro σ' H2 ⟨rfl, y, rfl⟩
      refine ⟨upd_same, ?_⟩
      rw [upd_upd, upd_id hb]
      exact q
theorem same_all {f : Addr} {fd : FuncData} {f__law_is_int : Addr} {fd__law_is_int : FuncData} (F : Fun K "_law_same" "_law_same" s__law_same f fd) (T : Gs K mg t_BOUND t_LETTERS t_LONGEST_NAME a_RESERVED a_BadName a_BadNumber a_Change a_ElseputError a_TooLarge a_UnknownField)
    (c__law_is_int : Cal P w K mg base CX0 1 "_law_is_int" f__law_is_int fd__law_is_int ["_law_thing"] (sp__law_is_int K)) (b : Binds K fd ["_law_actual", "_law_due"] []) (kp : PySem.W.keepIn K (.ref f) = true) (m : mg "_law_same" = some (.ref f)) :
    ∀ n : Nat, FnOk P w K mg base CX0 (n + 2) f fd ["_law_actual", "_law_due"] (spSame n)
  | 0 => ⟨fun _ _ _ _ h => len_same h, by
    intro A outer s H args us vs Q E _ _ _ _ h
    obtain ⟨_, _, _, h, _⟩ := h
    exact False.elim h⟩
  | n + 1 => same_step F T c__law_is_int ⟨same_all F T c__law_is_int b kp m n, b, kp, m⟩ (by omega)
def sp__law_same (K : PySem.W.Frag) : Sp := spSame 4
theorem ok__law_same {f : Addr} {fd : FuncData} {f__law_is_int : Addr} {fd__law_is_int : FuncData} (F : Fun K "_law_same" "_law_same" s__law_same f fd) (T : Gs K mg t_BOUND t_LETTERS t_LONGEST_NAME a_RESERVED a_BadName a_BadNumber a_Change a_ElseputError a_TooLarge a_UnknownField)
    (c__law_is_int : Cal P w K mg base CX0 1 "_law_is_int" f__law_is_int fd__law_is_int ["_law_thing"] (sp__law_is_int K)) (b : Binds K fd ["_law_actual", "_law_due"] []) (kp : PySem.W.keepIn K (.ref f) = true) (m : mg "_law_same" = some (.ref f)) :
    FnOk P w K mg base CX0 6 f fd ["_law_actual", "_law_due"] (sp__law_same K) := same_all F T c__law_is_int b kp m 4

end
section
variable {P : Program} {w : World} {K : PySem.W.Frag} {mg : Str → Option Value} {base : Heap}
variable {t_BOUND t_LETTERS t_LONGEST_NAME : Tok} {a_RESERVED a_BadName a_BadNumber a_Change a_ElseputError a_TooLarge a_UnknownField : Addr}
def Bd (i : Int) : Prop := -1000000000000000000000000000000 ≤ i ∧ i ≤ 1000000000000000000000000000000
def sp__law_number (K : PySem.W.Frag) : Sp := fun vs H Q _ => ∃ (st scr : Addr), vs = [.ref st] ∧ DrAt H st scr ∧ ∀ (l : List V) (i : Int), Bd i → DrAt (upd H st (.lst l)) st scr → Q (.int i) (upd H st (.lst l))
theorem len__law_number {vs : List V} {H : Hp} {Q : VK} {E : XK} (h : sp__law_number K vs H Q E) : vs.length = 1 := by
  obtain ⟨_, _, rfl, _⟩ := h
  rfl
theorem p30 : (10 : Int) ^ (30 : Int).toNat = 1000000000000000000000000000000 := by decide +kernel
theorem ok__law_number {f : Addr} {fd : FuncData} {f__law_draw : Addr} {fd__law_draw : FuncData} (F : Fun K "_law_number" "_law_number" s__law_number f fd) (T : Gs K mg t_BOUND t_LETTERS t_LONGEST_NAME a_RESERVED a_BadName a_BadNumber a_Change a_ElseputError a_TooLarge a_UnknownField) (c__law_draw : Cal P w K mg base CX0 1 "_law_draw" f__law_draw fd__law_draw ["_law_state_here", "_law_many"] (sp__law_draw K)) : FnOk P w K mg base CX0 2 f fd ["_law_state_here"] (sp__law_number K) := by
  refine F.ok sc__law_number (fun vs H Q E h => len__law_number h) (fun cdv A outer s H vs Q E hr h => ?_)
  obtain ⟨st, scr, rfl, hd, q⟩ := h
  refine ⟨_, (pss_cons (ps_set (i := 1) sc__law_number.nd rfl (.inl rfl) (pe_call c__law_draw.G (hr.mono (by first | decide | omega)) rfl c__law_draw.m c__law_draw.kp c__law_draw.b .nil pass0 (pa_cons (v_ 0) (pa_cons pe_int pa_nil)))) (pss_cons (ps_if (pt_c op_ltM (v_ 1) pe_int) (pss_one (ps_ret (pe_op op_subM (pe_call c__law_draw.G (hr.mono (by first | decide | omega)) rfl c__law_draw.m c__law_draw.kp c__law_draw.b .nil pass0 (pa_cons (v_ 0) (pa_cons pe_int pa_nil))) pe_int))) pss_nil) (pss_cons (ps_if (pt_c (eqK K hr.units) (v_ 1) pe_int) (pss_one (ps_ret (pe_op op_subM (pe_call c__law_draw.G (hr.mono (by first | decide | omega)) rfl c__law_draw.m c__law_draw.kp c__law_draw.b .nil pass0 (pa_cons (v_ 0) (pa_cons pe_int pa_nil))) pe_int))) pss_nil) (pss_cons (ps_if (pt_c (eqK K hr.units) (v_ 1) pe_int) (pss_one (ps_ret (pe_op op_subM (pe_op op_powM pe_int pe_int) (pe_call c__law_draw.G (hr.mono (by first | decide | omega)) rfl c__law_draw.m c__law_draw.kp c__law_draw.b .nil pass0 (pa_cons (v_ 0) (pa_cons pe_int pa_nil)))))) pss_nil) (pss_cons (ps_if (pt_c (eqK K hr.units) (v_ 1) pe_int) (pss_one (ps_ret (pe_op op_subM (pe_call c__law_draw.G (hr.mono (by first | decide | omega)) rfl c__law_draw.m c__law_draw.kp c__law_draw.b .nil pass0 (pa_cons (v_ 0) (pa_cons pe_int pa_nil))) (pe_op op_powM pe_int pe_int)))) pss_nil) (pss_one (ps_ret (pe_op op_subM (pe_call c__law_draw.G (hr.mono (by first | decide | omega)) rfl c__law_draw.m c__law_draw.kp c__law_draw.b .nil pass0 (pa_cons (v_ 0) (pa_cons (pe_op (addK K) (pe_op op_mulSM pe_int (pe_op op_powM pe_int pe_int)) pe_int) pa_nil))) (pe_op op_powM pe_int pe_int))))))))), ?_⟩
  refine ⟨st, scr, _, rfl, hd, by decide, many_small (by decide) (by decide), fun kd l _ _ hd1 => ?_⟩
  have q : ∀ (l2 : List V) (i : Int), Bd i → DrAt (upd (upd H st (.lst l)) st (.lst l2)) st scr → Q (.int i) (upd (upd H st (.lst l)) st (.lst l2)) := fun l2 i b d => by
    rw [upd_upd] at d ⊢
    exact q l2 i b d
  generalize upd H st (.lst l) = H1 at hd1 q ⊢
  refine ite2 (fun e => ?_) (fun e => ?_)
  · refine ⟨st, scr, _, rfl, hd1, by decide, many_small (by decide) (by decide), fun r l2 r0 r1 hd2 => ?_⟩
    exact q l2 _ (by unfold Bd; omega) hd2
  refine ite2 (fun e => ?_) (fun e => ?_)
  · refine ⟨st, scr, _, rfl, hd1, by decide, many_small (by decide) (by decide), fun r l2 r0 r1 hd2 => ?_⟩
    exact q l2 _ (by unfold Bd; omega) hd2
  refine ite2 (fun e => ?_) (fun e => ?_)
  · refine ⟨(by unfold CPow; decide), ?_⟩
    refine ⟨st, scr, _, rfl, hd1, by decide, many_small (by decide) (by decide), fun r l2 r0 r1 hd2 => ?_⟩
    rw [p30]
    exact q l2 _ (by unfold Bd; omega) hd2
  refine ite2 (fun e => ?_) (fun e => ?_)
  · refine ⟨st, scr, _, rfl, hd1, by decide, many_small (by decide) (by decide), fun r l2 r0 r1 hd2 => ?_⟩
    refine ⟨(by unfold CPow; decide), ?_⟩
    rw [p30]
    exact q l2 _ (by unfold Bd; omega) hd2
  refine ⟨(by unfold CPow; decide), ?_⟩
  rw [p30]
  refine ⟨.inl (.inl ⟨by decide, by decide⟩), ?_⟩
  refine ⟨st, scr, _, rfl, hd1, by decide, by decide +kernel, fun r l2 r0 r1 hd2 => ?_⟩
  refine ⟨(by unfold CPow; decide), ?_⟩
  rw [p30]
  exact q l2 _ (by unfold Bd; omega) hd2
def sp__law_constant (K : PySem.W.Frag) : Sp := sp__law_number K
theorem len__law_constant {vs : List V} {H : Hp} {Q : VK} {E : XK} (h : sp__law_constant K vs H Q E) : vs.length = 1 := len__law_number h
theorem ok__law_constant {f : Addr} {fd : FuncData} {f__law_number : Addr} {fd__law_number : FuncData} {f__law_draw : Addr} {fd__law_draw : FuncData} (F : Fun K "_law_constant" "_law_constant" s__law_constant f fd) (T : Gs K mg t_BOUND t_LETTERS t_LONGEST_NAME a_RESERVED a_BadName a_BadNumber a_Change a_ElseputError a_TooLarge a_UnknownField) (c__law_number : Cal P w K mg base CX0 2 "_law_number" f__law_number fd__law_number ["_law_state_here"] (sp__law_number K)) (c__law_draw : Cal P w K mg base CX0 1 "_law_draw" f__law_draw fd__law_draw ["_law_state_here", "_law_many"] (sp__law_draw K)) : FnOk P w K mg base CX0 3 f fd ["_law_state_here"] (sp__law_constant K) := by
  refine F.ok sc__law_constant (fun vs H Q E h => len__law_constant h) (fun cdv A outer s H vs Q E hr h => ?_)
  obtain ⟨st, scr, rfl, hd, q⟩ := h
  refine ⟨_, (pss_cons (ps_if (pt_c op_ltM (pe_call c__law_draw.G (hr.mono (by first | decide | omega)) rfl c__law_draw.m c__law_draw.kp c__law_draw.b .nil pass0 (pa_cons (v_ 0) (pa_cons pe_int pa_nil))) pe_int) (pss_one (ps_ret (pe_op op_subM (pe_call c__law_draw.G (hr.mono (by first | decide | omega)) rfl c__law_draw.m c__law_draw.kp c__law_draw.b .nil pass0 (pa_cons (v_ 0) (pa_cons pe_int pa_nil))) pe_int))) pss_nil) (pss_one (ps_ret (pe_call c__law_number.G (hr.mono (by first | decide | omega)) rfl c__law_number.m c__law_number.kp c__law_number.b .nil pass0 (pa_cons (v_ 0) pa_nil))))), ?_⟩
  refine ⟨st, scr, _, rfl, hd, by decide, many_small (by decide) (by decide), fun kd l _ _ hd1 => ?_⟩
  have q : ∀ (l2 : List V) (i : Int), Bd i → DrAt (upd (upd H st (.lst l)) st (.lst l2)) st scr → Q (.int i) (upd (upd H st (.lst l)) st (.lst l2)) := fun l2 i b d => by
    rw [upd_upd] at d ⊢
    exact q l2 i b d
  refine ite2 (fun e => ?_) (fun e => ?_)
  · refine ⟨st, scr, _, rfl, hd1, by decide, many_small (by decide) (by decide), fun r l2 r0 r1 hd2 => ?_⟩
    exact q l2 _ (by unfold Bd; omega) hd2
  · exact ⟨st, scr, rfl, hd1, fun l2 i b d => q l2 i b d⟩

/-! ### names -/
/-- small letters, of which the one at p is c -/
def Lt (z : Str) (p c : Nat) : Prop := (∀ d ∈ z.cps.toList, d ∈ letters.cps.toList) ∧ z.cps.toList[p]? = some c ∧ z.length ≤ 12
theorem Lt.name {z : Str} {p c : Nat} (h : Lt z p c) (hr : inV (.str z) resv = false) : isName z = true := by
  unfold isName
  have h0 : ¬ ((z.length : Int) < 1) := by
    have := (List.getElem?_eq_some_iff.mp h.2.1).1
    rw [len_cps] at this
    omega
  have h1 : ¬ ((12 : Int) < z.length) := by have := h.2.2; omega
  rw [decide_eq_false h0, decide_eq_false h1, hr]
  show (z.cps.toList.all fun c => decide (c ∈ letters.cps.toList)) = true
  exact List.all_eq_true.mpr fun d hd => decide_eq_true (h.1 d hd)
theorem resv_strs : resv = (["always", "never", "and", "or", "not", "when", "add", "set", "change", "tell", "refuse", "take", "look", "free", "lock", "keep", "keys", "fields"] : List Str).map V.str := rfl
theorem resv_z {z : Str} (h : inV (.str z) resv = true) : inV (.str (z ++ "z")) resv = false ∧ z.length ≤ 7 := by
  rw [resv_strs, inV_str, decide_eq_true_iff] at h
  have all : (["always", "never", "and", "or", "not", "when", "add", "set", "change", "tell", "refuse", "take", "look", "free", "lock", "keep", "keys", "fields"] : List Str).all (fun z => !inV (.str (z ++ "z")) resv && decide (z.length ≤ 7)) = true := by decide +kernel
  have := List.all_eq_true.mp all z h
  rw [Bool.and_eq_true, Bool.not_eq_true', decide_eq_true_iff] at this
  exact this
end
section
variable {P : Program} {w : World} {K : PySem.W.Frag} {mg : Str → Option Value} {base : Heap}
variable {t_BOUND t_LETTERS t_LONGEST_NAME : Tok} {a_RESERVED a_BadName a_BadNumber a_Change a_ElseputError a_TooLarge a_UnknownField : Addr}
theorem cutS_take (z : Str) {k : Nat} : (cutS z none (some (k : Int))).cps.toList = z.cps.toList.take k := by
  unfold cutS
  rw [List.toList_toArray, HT.sIx_nat, HT.sIx_none, List.drop_zero, Nat.sub_zero, List.take_eq_take_iff, len_cps]
  omega
theorem cutS_drop (z : Str) {k : Nat} : (cutS z (some (k : Int)) none).cps.toList = z.cps.toList.drop k := by
  unfold cutS
  rw [List.toList_toArray, HT.sIx_nat, HT.sIx_none]
  by_cases h : k ≤ z.length
  · rw [Nat.min_eq_left h, List.take_of_length_le (by rw [List.length_drop, len_cps]; omega)]
  · rw [Nat.min_eq_right (by omega), List.drop_of_length_le (by rw [len_cps]; omega), List.drop_of_length_le (by rw [len_cps]; omega), List.take_nil]
theorem letter_at {i : Int} (h0 : 0 ≤ i) (h1 : i < 26) : atI letters.cps.toList i = some (97 + i.toNat) := by
  have all : ∀ j : Fin 26, letters.cps.toList[j.val]? = some (97 + j.val) := by decide +kernel
  have := all ⟨i.toNat, by omega⟩
  have hq := atI_nat this
  rwa [show ((i.toNat : Nat) : Int) = i by omega] at hq
theorem letter_mem {i : Nat} (h1 : i < 26) : (97 + i) ∈ letters.cps.toList := by
  have all : ∀ j : Fin 26, (97 + j.val) ∈ letters.cps.toList := by decide +kernel
  exact all ⟨i, h1⟩
theorem one_len (c : Nat) : (⟨#[c]⟩ : Str).length = 1 := rfl
theorem one_cps (c : Nat) : (⟨#[c]⟩ : Str).cps.toList = [c] := rfl
theorem Lt.z {z : Str} {p c : Nat} (h : Lt z p c) (hl : z.length ≤ 7) : Lt (z ++ "z") p c := by
  refine ⟨fun d hd => ?_, ?_, ?_⟩
  · rw [cps_add] at hd
    rcases List.mem_append.mp hd with e | e
    · exact h.1 d e
    · have : d = 122 := by simpa using (show d ∈ [122] from e)
      rw [this]
      decide +kernel
  · rw [cps_add, List.getElem?_append_left (List.getElem?_eq_some_iff.mp h.2.1).1]
    exact h.2.1
  · rw [len_add]
    show z.length + 1 ≤ 12
    omega
def sp__law_names (K : PySem.W.Frag) : Sp := fun vs H Q _ => ∃ (st scr : Addr) (n : Nat), vs = [.ref st, .int n] ∧ DrAt H st scr ∧ n ≤ 26 ∧
  ∀ (H' : Hp) (p : Addr) (zs : List Str), Bt st H H' → DrAt H' st scr → H p = none → H' p = some (.lst (zs.map V.str)) → zs.length = n → (∀ z ∈ zs, isName z = true ∧ z.length ≤ 12) → zs.Nodup → Q (.ref p) H'
theorem len__law_names {vs : List V} {H : Hp} {Q : VK} {E : XK} (h : sp__law_names K vs H Q E) : vs.length = 2 := by
  obtain ⟨_, _, _, rfl, _⟩ := h
  rfl
theorem ok__law_names {f : Addr} {fd : FuncData} {f__law_draw : Addr} {fd__law_draw : FuncData} (F : Fun K "_law_names" "_law_names" s__law_names f fd) (T : Gs K mg t_BOUND t_LETTERS t_LONGEST_NAME a_RESERVED a_BadName a_BadNumber a_Change a_ElseputError a_TooLarge a_UnknownField) (c__law_draw : Cal P w K mg base CX0 1 "_law_draw" f__law_draw fd__law_draw ["_law_state_here", "_law_many"] (sp__law_draw K)) : FnOk P w K mg base CX0 2 f fd ["_law_state_here", "_law_many"] (sp__law_names K) := by
  refine F.ok sc__law_names (fun vs H Q E h => len__law_names h) (fun cdv A outer s H vs Q E hr h => ?_)
  obtain ⟨st, scr, n, rfl, hd, hn, q⟩ := h
  refine ⟨_, (pss_cons (ps_set (i := 2) sc__law_names.nd rfl (.inl rfl) pe_str) (pss_cons (ps_set (i := 3) sc__law_names.nd rfl (.inl rfl) (pe_call c__law_draw.G (hr.mono (by first | decide | omega)) rfl c__law_draw.m c__law_draw.kp c__law_draw.b .nil pass0 (pa_cons (v_ 0) (pa_cons pe_int pa_nil)))) (pss_cons (ps_set (i := 4) sc__law_names.nd rfl (.inl rfl) (pe_call c__law_draw.G (hr.mono (by first | decide | omega)) rfl c__law_draw.m c__law_draw.kp c__law_draw.b .nil pass0 (pa_cons (v_ 0) (pa_cons pe_int pa_nil)))) (pss_cons (ps_set (i := 5) sc__law_names.nd rfl (.inl rfl) (pe_call c__law_draw.G (hr.mono (by first | decide | omega)) rfl c__law_draw.m c__law_draw.kp c__law_draw.b .nil pass0 (pa_cons (v_ 0) (pa_cons pe_int pa_nil)))) (pss_cons (ps_set (i := 6) sc__law_names.nd rfl (.inl rfl) (pe_call c__law_draw.G (hr.mono (by first | decide | omega)) rfl c__law_draw.m c__law_draw.kp c__law_draw.b .nil pass0 (pa_cons (v_ 0) (pa_cons pe_int pa_nil)))) (pss_cons (ps_set (i := 7) sc__law_names.nd rfl (.inl rfl) pe_str) (pss_cons (ps_for PassesOwn.never rfl (pi_range1 rfl T.z_range (pa_cons pe_int pa_nil)) (pg_name (i := 8) sc__law_names.nd rfl (.inl rfl)) (pss_cons (ps_set (i := 7) sc__law_names.nd rfl (.inl rfl) (pe_op (addK K) (v_ 7) (e_x K (v_ 2) (pe_op op_modM (pe_callTy call_intM (by rfl) T.z_int (by decide +kernel) (pa_cons (v_ 5) pa_nil)) pe_int)))) (pss_one (ps_set (i := 5) sc__law_names.nd rfl (.inl rfl) (pe_op op_divM (pe_callTy call_intM (by rfl) T.z_int (by decide +kernel) (pa_cons (v_ 5) pa_nil)) pe_int))))) (pss_cons (ps_set (i := 9) sc__law_names.nd rfl (.inl rfl) (pe_lst (pa_cons pe_str (pa_cons pe_str (pa_cons pe_str (pa_cons pe_str (pa_cons pe_str (pa_cons pe_str (pa_cons pe_str (pa_cons pe_str (pa_cons pe_str (pa_cons pe_str (pa_cons pe_str (pa_cons pe_str pa_nil)))))))))))))) (pss_cons (ps_set (i := 9) sc__law_names.nd rfl (.inl rfl) (pe_op (addK K) (v_ 9) (pe_lst (pa_cons pe_str (pa_cons pe_str (pa_cons pe_str (pa_cons pe_str (pa_cons pe_str (pa_cons pe_str pa_nil))))))))) (pss_cons (ps_set (i := 10) sc__law_names.nd rfl (.inl rfl) (pe_lst pa_nil)) (pss_cons (ps_for PassesOwn.never rfl (pi_range1 rfl T.z_range (pa_cons (v_ 1) pa_nil)) (pg_name (i := 8) sc__law_names.nd rfl (.inl rfl)) (pss_cons (ps_set (i := 11) sc__law_names.nd rfl (.inl rfl) (e_x K (v_ 2) (pe_op op_modM (pe_callTy call_intM (by rfl) T.z_int (by decide +kernel) (pa_cons (pe_op (addK K) (v_ 4) (pe_op op_mulSM pe_int (v_ 8))) pa_nil)) pe_int))) (Evl.pss_cut (ps_if (pt_c (eqK K hr.units) (v_ 3) pe_int) (pss_one (ps_set (i := 11) sc__law_names.nd rfl (.inl rfl) (pe_op (addK K) (pe_op (addK K) (pe_slice (slK K) (v_ 7) po_none (po_some (v_ 6))) (v_ 11)) (pe_slice (slK K) (v_ 7) (po_some (v_ 6)) po_none)))) pss_nil) (Evl.pss_cut (ps_if (pt_c (eqK K hr.units) (v_ 3) pe_int) (pss_one (ps_set (i := 11) sc__law_names.nd rfl (.inl rfl) (pe_op (addK K) (v_ 11) (pe_slice (slK K) (v_ 7) po_none (po_some (pe_op op_modM (pe_callTy call_intM (by rfl) T.z_int (by decide +kernel) (pa_cons (pe_op (addK K) (pe_op op_mulSM pe_int (v_ 8)) (v_ 6)) pa_nil)) pe_int)))))) pss_nil) (Evl.pss_cut (ps_if (pt_c (eqK K hr.units) (v_ 3) pe_int) (pss_one (ps_set (i := 11) sc__law_names.nd rfl (.inl rfl) (pe_op (addK K) (pe_op (addK K) (pe_slice (slK K) (v_ 7) po_none (po_some pe_int)) (v_ 11)) (v_ 7)))) pss_nil) (Evl.pss_cut (ps_if (pt_c (inK K) (v_ 11) (v_ 9)) (pss_one (ps_set (i := 11) sc__law_names.nd rfl (.inl rfl) (pe_op (addK K) (v_ 11) pe_str))) pss_nil) (pss_one (ps_expr (pe_bm PySem.F.plainAttrs_list PySem.F.slot_list_append PySem.F.type_list_append mt_append (v_ 10) (pa_cons (v_ 11) pa_nil)))))))))) (pss_one (ps_ret (v_ 10)))))))))))))), ?_⟩
  refine ⟨st, scr, _, rfl, hd, by decide, many_small (by decide) (by decide), fun sty l1 s0 s1 hd1 => ?_⟩
  have b1 : Bt st H (upd H st (.lst l1)) := Bt.st
  generalize upd H st (.lst l1) = H1 at hd1 b1 ⊢
  refine ⟨st, scr, _, rfl, hd1, by decide, many_small (by decide) (by decide), fun sh l2 h0 h1 hd2 => ?_⟩
  have b2 := b1.trans (Bt.st (st := st) (o := .lst l2))
  generalize upd H1 st (.lst l2) = H2 at hd2 b2 ⊢
  refine ⟨st, scr, _, rfl, hd2, by decide, many_small (by decide) (by decide), fun cd l3 c0 c1 hd3 => ?_⟩
  have b3 := b2.trans (Bt.st (st := st) (o := .lst l3))
  generalize upd H2 st (.lst l3) = H3 at hd3 b3 ⊢
  refine ⟨st, scr, _, rfl, hd3, by decide, many_small (by decide) (by decide), fun spt l4 p0 p1 hd4 => ?_⟩
  have b4 := b3.trans (Bt.st (st := st) (o := .lst l4))
  generalize upd H3 st (.lst l4) = H4 at hd4 b4 ⊢
  refine ⟨6, rfl, by decide, by decide, ?_⟩
  refine for_range (lo := 0) (n := 6) (fun i σ' H' => ∃ (z : Str) (code : Int) (y : Option V), σ' = [some (.ref st), some (.int n), some (.str letters), some (.int sty), some (.int sh), some (.int code), some (.int spt), some (.str z), y, none, none, none] ∧ H' = H4 ∧ z.length = i ∧ ∀ d ∈ z.cps.toList, d ∈ letters.cps.toList) ?_ ?_ ?_
  · exact ⟨_, _, _, rfl, rfl, rfl, fun _ h => nomatch h⟩
  · rintro i σ' H' hi ⟨z, code, y, rfl, rfl, hz, ha⟩
    refine ⟨by decide, ?_⟩
    have r0 := Int.emod_nonneg code (by decide : (26 : Int) ≠ 0)
    have r1 := Int.emod_lt_of_pos code (by decide : (0 : Int) < 26)
    refine ⟨line_of (by decide +kernel), _, letter_at r0 r1, line_of (by rw [one_len]; omega), ?_⟩
    refine ⟨.inl ⟨by decide, by decide⟩, ?_⟩
    refine ⟨_, _, _, rfl, rfl, by rw [len_add, one_len, hz], fun d hd => ?_⟩
    rw [cps_add, one_cps] at hd
    rcases List.mem_append.mp hd with h | h
    · exact ha d h
    · rw [List.mem_singleton.mp h]
      exact letter_mem (by omega)
  rintro σ' H' ⟨bs, code, y, rfl, rfl, hz, ha⟩
  have hbl : bs.cps.toList.length = 6 := by rw [len_cps]; exact hz
  refine ⟨(by show 12 ≤ sizeLine; decide), fun o no => ?_⟩
  refine ⟨(by show 6 ≤ sizeLine; decide), fun p np => ?_⟩
  have hpo := new_ne np
  refine .inl ⟨_, _, (by rw [upd_ne hpo.symm, upd_same]), upd_same, (by show 18 ≤ sizeLine; decide), fun rv nrv => ?_⟩
  have sm := ((same_new (o := .lst [.str "always", .str "never", .str "and", .str "or", .str "not", .str "when", .str "add", .str "set", .str "change", .str "tell", .str "refuse", .str "take"]) no).trans (same_new (o := .lst [.str "look", .str "free", .str "lock", .str "keep", .str "keys", .str "fields"]) np)).trans (same_new (o := .lst resv) nrv)
  generalize hH5 : upd _ rv _ = H5
  have hrv : H5 rv = some (.lst resv) := by rw [← hH5]; exact upd_same
  have hd5 : DrAt H5 st scr := by rw [← hH5]; exact hd4.new sm
  have b5 : Bt st H H5 := by rw [← hH5]; exact b4.trans (Bt.same (st := st) sm)
  clear hH5
  refine ⟨Nat.zero_le _, fun L nL => ?_⟩
  generalize hH6 : upd _ L _ = H6
  have hrv2 : H6 rv = some (.lst resv) := by rw [← hH6]; exact same_new nL _ _ hrv
  have hd6 : DrAt H6 st scr := by rw [← hH6]; exact hd5.new (same_new nL)
  have b6 : Bt st H H6 := by rw [← hH6]; exact b5.trans (Bt.same (st := st) (same_new nL))
  have L0 : H L = none := b5.free (hd5.ne_new nL) nL
  have eL : H6 L = some (.lst []) := by rw [← hH6]; exact upd_same
  have Ls : L ≠ st := hd5.ne_new nL
  have Lc : L ≠ scr := hd5.ne_scr nL
  have Lrv : rv ≠ L := ne_of_none hrv nL
  clear hH6
  refine ⟨n, rfl, by omega, by omega, ?_⟩
  obtain ⟨ps, hps⟩ : ∃ ps : Nat, ps = if sty = 1 then spt.toNat else if sty = 3 then 5 else 0 := ⟨_, rfl⟩
  refine for_range (lo := 0) (n := n) (fun i σ' H' => ∃ (y z : Option V) (zs : List Str), σ' = [some (.ref st), some (.int n), some (.str letters), some (.int sty), some (.int sh), some (.int code), some (.int spt), some (.str bs), y, some (.ref rv), some (.ref L), z] ∧ H' = upd H6 L (.lst (zs.map V.str)) ∧ zs.length = i ∧
    ∀ (j : Nat) (z : Str), zs[j]? = some z → Lt z ps (97 + ((sh + 7 * (j : Int)) % 26).toNat) ∧ inV (.str z) resv = false) ?_ ?_ ?_
  · exact ⟨_, _, [], rfl, (upd_id eL).symm, rfl, fun j z h => nomatch h⟩
  · rintro i σ' H' hi ⟨y, z, zs, rfl, rfl, hzl, hzs⟩
    have r0 := Int.emod_nonneg (sh + 7 * (0 + (i : Int))) (by decide : (26 : Int) ≠ 0)
    have r1 := Int.emod_lt_of_pos (sh + 7 * (0 + (i : Int))) (by decide : (0 : Int) < 26)
    refine ⟨.inl (.inl ⟨by decide, by decide⟩), by decide, ?_⟩
    refine ⟨line_of (by decide +kernel), _, letter_at r0 r1, ?_⟩
    have hcm := letter_mem (i := ((sh + 7 * (0 + (i : Int))) % 26).toNat) (by omega)
    rw [Int.zero_add] at hcm r0 r1 ⊢
    generalize hcc : 97 + ((sh + 7 * (i : Int)) % 26).toNat = ch at hcm ⊢
    have hrv3 : (upd H6 L (.lst (zs.map V.str))) rv = some (.lst resv) := by rw [upd_ne Lrv]; exact hrv2
    refine ⟨fun σ' H' => ∃ w : Str, σ' = [some (.ref st), some (.int n), some (.str letters), some (.int sty), some (.int sh), some (.int code), some (.int spt), some (.str bs), some (.int i), some (.ref rv), some (.ref L), some (.str w)] ∧ H' = upd H6 L (.lst (zs.map V.str)) ∧ (sty = 1 → Lt w ps ch) ∧ (sty ≠ 1 → w = ⟨#[ch]⟩), ?_, ?_⟩
    · refine ite2 (fun e => ?_) (fun e => ?_)
      · have e : sty = 1 := of_decide_eq_true e
        have l1 := cutS_length bs none (some spt)
        have l2 := cutS_length bs (some spt) none
        have e1 := cutS_take bs (k := spt.toNat)
        have e2 := cutS_drop bs (k := spt.toNat)
        rw [show ((spt.toNat : Nat) : Int) = spt by omega] at e1 e2
        refine ⟨_, rfl, line_of (by omega), line_of (by rw [one_len]; omega), _, rfl, line_of (by omega), line_of (by rw [len_add, one_len]; omega), ?_⟩
        refine ⟨_, rfl, rfl, fun _ => ⟨fun d hd => ?_, ?_, ?_⟩, fun h => absurd e h⟩
        · rw [cps_add, cps_add, e1, e2, one_cps] at hd
          rcases List.mem_append.mp hd with h | h
          · rcases List.mem_append.mp h with h | h
            · exact ha d (List.mem_of_mem_take h)
            · rw [List.mem_singleton.mp h]; exact hcm
          · exact ha d (List.mem_of_mem_drop h)
        · have hps1 : ps = spt.toNat := by rw [hps, if_pos e]
          rw [cps_add, cps_add, e1, e2, one_cps, hps1, List.append_assoc, List.getElem?_append_right (by rw [List.length_take]; omega), List.length_take, hbl, Nat.min_eq_left (by omega), Nat.sub_self]
          rfl
        · rw [len_add, len_add, ← len_cps (cutS bs none (some spt)), ← len_cps (cutS bs (some spt) none), e1, e2, one_len, List.length_take, List.length_drop]
          omega
      · have e : ¬ sty = 1 := of_decide_eq_false (Bool.eq_false_iff.mpr e)
        exact ⟨_, rfl, rfl, fun h => absurd h e, fun _ => rfl⟩
    rintro σ' H' ⟨w, rfl, rfl, g1, g2⟩
    refine ⟨fun σ' H' => ∃ w : Str, σ' = [some (.ref st), some (.int n), some (.str letters), some (.int sty), some (.int sh), some (.int code), some (.int spt), some (.str bs), some (.int i), some (.ref rv), some (.ref L), some (.str w)] ∧ H' = upd H6 L (.lst (zs.map V.str)) ∧ (sty ≠ 3 → Lt w ps ch) ∧ (sty = 3 → w = ⟨#[ch]⟩), ?_, ?_⟩
    · refine ite2 (fun e => ?_) (fun e => ?_)
      · have e : sty = 2 := of_decide_eq_true e
        have hw := g2 (by omega)
        subst hw
        have r2 := Int.emod_nonneg (3 * (i : Int) + spt) (by decide : (7 : Int) ≠ 0)
        have e1 := cutS_take bs (k := ((3 * (i : Int) + spt) % 7).toNat)
        rw [show ((((3 * (i : Int) + spt) % 7).toNat : Nat) : Int) = (3 * (i : Int) + spt) % 7 by omega] at e1
        have l1 := cutS_length bs none (some ((3 * (i : Int) + spt) % 7))
        refine ⟨.inl (.inl ⟨by decide, by decide⟩), by decide, _, rfl, line_of (by omega), line_of (by rw [one_len]; omega), ?_⟩
        refine ⟨_, rfl, rfl, fun _ => ⟨fun d hd => ?_, ?_, ?_⟩, fun h => absurd h (by omega)⟩
        · rw [cps_add, e1, one_cps] at hd
          rcases List.mem_append.mp hd with h | h
          · rw [List.mem_singleton.mp h]; exact hcm
          · exact ha d (List.mem_of_mem_take h)
        · have hps1 : ps = 0 := by rw [hps, if_neg (by omega), if_neg (by omega)]
          rw [cps_add, one_cps, hps1]
          rfl
        · rw [len_add, one_len]
          omega
      · have e : ¬ sty = 2 := of_decide_eq_false (Bool.eq_false_iff.mpr e)
        refine ⟨w, rfl, rfl, fun h3 => ?_, fun h3 => g2 (by omega)⟩
        by_cases h1 : sty = 1
        · exact g1 h1
        · have hw := g2 h1
          subst hw
          refine ⟨fun d hd => ?_, ?_, by rw [one_len]; decide⟩
          · rw [List.mem_singleton.mp hd]; exact hcm
          · have hps1 : ps = 0 := by rw [hps, if_neg h1, if_neg h3]
            rw [hps1]
            rfl
    rintro σ' H' ⟨w, rfl, rfl, g1, g2⟩
    refine ⟨fun σ' H' => ∃ w : Str, σ' = [some (.ref st), some (.int n), some (.str letters), some (.int sty), some (.int sh), some (.int code), some (.int spt), some (.str bs), some (.int i), some (.ref rv), some (.ref L), some (.str w)] ∧ H' = upd H6 L (.lst (zs.map V.str)) ∧ Lt w ps ch, ?_, ?_⟩
    · refine ite2 (fun e => ?_) (fun e => ?_)
      · have e : sty = 3 := of_decide_eq_true e
        have hw := g2 e
        subst hw
        have e1 := cutS_take bs (k := 5)
        have l1 := cutS_length bs none (some 5)
        refine ⟨_, rfl, line_of (by omega), line_of (by rw [one_len]; omega), line_of (by rw [len_add, one_len]; omega), ?_⟩
        refine ⟨_, rfl, rfl, fun d hd => ?_, ?_, ?_⟩
        · rw [cps_add, cps_add, show (cutS bs none (some (5 : Int))).cps.toList = bs.cps.toList.take 5 from e1, one_cps] at hd
          rcases List.mem_append.mp hd with h | h
          · rcases List.mem_append.mp h with h | h
            · exact ha d (List.mem_of_mem_take h)
            · rw [List.mem_singleton.mp h]; exact hcm
          · exact ha d h
        · have hps1 : ps = 5 := by rw [hps, if_neg (by omega), if_pos e]
          rw [cps_add, cps_add, show (cutS bs none (some (5 : Int))).cps.toList = bs.cps.toList.take 5 from e1, one_cps, hps1, List.append_assoc, List.getElem?_append_right (by rw [List.length_take]; omega), List.length_take, hbl]
          rfl
        · rw [len_add, len_add, ← len_cps (cutS bs none (some (5 : Int))), show (cutS bs none (some (5 : Int))).cps.toList = bs.cps.toList.take 5 from e1, one_len, List.length_take]
          omega
      · have e : ¬ sty = 3 := of_decide_eq_false (Bool.eq_false_iff.mpr e)
        exact ⟨w, rfl, rfl, g1 e⟩
    rintro σ' H' ⟨w, rfl, rfl, g1⟩
    refine ⟨fun σ' H' => ∃ w : Str, σ' = [some (.ref st), some (.int n), some (.str letters), some (.int sty), some (.int sh), some (.int code), some (.int spt), some (.str bs), some (.int i), some (.ref rv), some (.ref L), some (.str w)] ∧ H' = upd H6 L (.lst (zs.map V.str)) ∧ Lt w ps ch ∧ inV (.str w) resv = false, ?_, ?_⟩
    · refine ⟨_, .inl (SqL.of hrv3), rfl, rfl, ?_⟩
      refine ite2 (fun e => ?_) (fun e => ?_)
      · have e : inV (.str w) resv = true := e
        obtain ⟨z1, z2⟩ := resv_z e
        exact ⟨line_of (by show w.length + 1 ≤ _; omega), _, rfl, rfl, g1.z z2, z1⟩
      · exact ⟨w, rfl, rfl, g1, Bool.eq_false_iff.mpr e⟩
    rintro σ' H' ⟨w, rfl, rfl, g1, gr⟩
    refine ⟨.inl ⟨rfl, _, SqL.of upd_same⟩, L, _, _, rfl, rfl, upd_same, line_lt (by rw [List.length_map]; omega), ?_⟩
    refine ⟨_, _, zs ++ [w], rfl, ?_, by rw [List.length_append, hzl]; rfl, fun j z hj => ?_⟩
    · rw [upd_upd, List.map_append]
      rfl
    · by_cases h : j < zs.length
      · rw [List.getElem?_append_left h] at hj
        exact hzs j z hj
      · rw [List.getElem?_append_right (by omega)] at hj
        have hj0 : j - zs.length = 0 := by
          have := (List.getElem?_eq_some_iff.mp hj).1
          rw [List.length_singleton] at this
          omega
        rw [hj0] at hj
        cases hj
        rw [show j = i by omega, hcc]
        exact ⟨g1, gr⟩
  · rintro σ' H' ⟨y, z, zs, rfl, rfl, hzl, hzs⟩
    refine q _ L zs ?_ (hd6.at Ls Lc) L0 upd_same (by omega) (fun z hz => ?_) ?_
    · intro b o nb hb
      rw [upd_ne (ne_of_none hb L0)]
      exact b6 b o nb hb
    · obtain ⟨j, hj, e⟩ := List.getElem_of_mem hz
      obtain ⟨h1, h2⟩ := hzs j z (by rw [List.getElem?_eq_getElem hj, e])
      exact ⟨h1.name h2, h1.2.2⟩
    · show List.Pairwise (· ≠ ·) zs
      rw [List.pairwise_iff_getElem]
      intro i j hi hj hij e
      have ej : zs[j]? = some zs[j] := List.getElem?_eq_getElem hj
      have ei : zs[i]? = some zs[j] := by rw [← e]; exact List.getElem?_eq_getElem hi
      obtain ⟨h1, _⟩ := hzs i _ ei
      obtain ⟨h2, _⟩ := hzs j _ ej
      have := h1.2.1.symm.trans h2.2.1
      have := Option.some.inj this
      omega
end
section
variable {P : Program} {w : World} {K : PySem.W.Frag} {mg : Str → Option Value} {base : Heap}
variable {t_BOUND t_LETTERS t_LONGEST_NAME : Tok} {a_RESERVED a_BadName a_BadNumber a_Change a_ElseputError a_TooLarge a_UnknownField : Addr}
theorem applyR_snoc {c : Ct} {xs : List Rw} {x : Rw} : applyR c (xs ++ [x]) = stepR (applyR c xs) x := by
  unfold applyR
  rw [List.foldl_append]
  rfl
theorem Ints.app {c : Ct} (l : List Rw) : Ints c → Ints (applyR c l) := by
  induction l generalizing c with
  | nil => exact fun h => h
  | cons x l ih => exact fun h => ih h.step
theorem HasF.app {c : Ct} {z : Str} (l : List Rw) : HasF c z → HasF (applyR c l) z := by
  induction l generalizing c with
  | nil => exact fun h => h
  | cons x l ih => exact fun h => ih h.step
theorem app_len {c : Ct} (l : List Rw) : (∀ x ∈ l, HasF c x.f) → (applyR c l).length = c.length := by
  induction l generalizing c with
  | nil => exact fun _ => rfl
  | cons x l ih =>
    intro h
    have := ih (c := stepR c x) fun y hy => (h y (List.mem_cons_of_mem _ hy)).step
    exact this.trans (putK_len' (h x List.mem_cons_self))
theorem deed_add {b : Bool} : decide (deed b = "add") = b := by cases b <;> decide +kernel
def sp__law_changed (K : PySem.W.Frag) : Sp := fun vs H Q _ => ∃ (p d : Addr) (rs : List Addr) (xs : List Rw) (c : Ct), vs = [.ref p, .ref d] ∧ H p = some (.lst (rs.map V.ref)) ∧ RowsL H rs xs ∧ xs.length ≤ 20 ∧ H d = some (.dK c) ∧ Ints c ∧ c.length ≤ 100 ∧ (∀ x ∈ xs, HasF c x.f) ∧
  ∀ (H' : Hp) (r : Addr), Same H H' → H r = none → H' r = some (.dK (applyR c xs)) → Q (.ref r) H'
theorem len__law_changed {vs : List V} {H : Hp} {Q : VK} {E : XK} (h : sp__law_changed K vs H Q E) : vs.length = 2 := by
  obtain ⟨_, _, _, _, _, rfl, _⟩ := h
  rfl
theorem ok__law_changed {f : Addr} {fd : FuncData} (F : Fun K "_law_changed" "_law_changed" s__law_changed f fd) (T : Gs K mg t_BOUND t_LETTERS t_LONGEST_NAME a_RESERVED a_BadName a_BadNumber a_Change a_ElseputError a_TooLarge a_UnknownField) : FnOk P w K mg base CX0 1 f fd ["_law_rows", "_law_content"] (sp__law_changed K) := by
  refine F.ok sc__law_changed (fun vs H Q E h => len__law_changed h) (fun cdv A outer s H vs Q E hr h => ?_)
  obtain ⟨p, d, rs, xs, c, rfl, hp, hrs, lx, hd, hI, hcl, hF, q⟩ := h
  refine ⟨_, (pss_cons (ps_set (i := 2) sc__law_changed.nd rfl (.inl rfl) (pe_callTy call_dictD (by rfl) T.z_dict (by decide +kernel) (pa_cons (v_ 1) pa_nil))) (pss_cons (ps_for PassesOwn.never rfl (pi_list (v_ 0)) (pg_name (i := 3) sc__law_changed.nd rfl (.inl rfl)) (pss_one (ps_if (pt_c (eqK K hr.units) (e_x K (v_ 3) pe_int) pe_str) (pss_one (ps_asg (pe_op (addK K) (pe_dget (hu_of hr) (v_ 2) (e_x K (v_ 3) pe_int) (fun _ _ => rfl)) (e_x K (v_ 3) pe_int)) (pg_sub (v_ 2) (e_x K (v_ 3) pe_int) (set_dict (hu_of hr))))) (pss_one (ps_asg (e_x K (v_ 3) pe_int) (pg_sub (v_ 2) (e_x K (v_ 3) pe_int) (set_dict (hu_of hr)))))))) (pss_one (ps_ret (v_ 2))))), ?_⟩
  refine ⟨d, c, rfl, .inl hd, fun r nr => ?_⟩
  have s1 := same_new (o := .dK c) nr
  refine ⟨p, rfl, ⟨_, SqL.of (s1 _ _ hp)⟩, ?_⟩
  refine for_list (K := K) (a := p) (xs := rs.map V.ref) (fun i σ' H2 => (∃ y, σ' = [some (.ref p), some (.ref d), some (.ref r), y]) ∧ Same H H2 ∧ H2 r = some (.dK (applyR c (xs.take i)))) ⟨⟨_, rfl⟩, s1, upd_same⟩ (fun i σ' H2 _ h => SqL.of (h.2.1 _ _ hp)) ?_ ?_
  · rintro i v σ' H2 hi ⟨⟨y, rfl⟩, sm, hr2⟩
    rw [List.getElem?_map] at hi
    obtain ⟨k, hk, rfl⟩ := Option.map_eq_some_iff.mp hi
    obtain ⟨x, hx, hax⟩ := hrs.get hk
    have hf := (hF x (List.mem_of_getElem? hx)).app (xs.take i)
    have hn := hI.app (xs.take i)
    have hlen := app_len (xs.take i) fun y hy => hF y (List.mem_of_mem_take hy)
    have hd2 : applyR c (xs.take (i + 1)) = stepR (applyR c (xs.take i)) x := by rw [take_snoc hx, applyR_snoc]
    generalize applyR c (xs.take i) = c' at hr2 hd2 hf hn hlen
    obtain ⟨v, hv⟩ := Option.isSome_iff_exists.mp hf
    obtain ⟨o, rfl⟩ := hn _ _ hv
    have fin : ∀ n : Int, n = newN c' x → (∃ y : Option V, [some (V.ref p), some (V.ref d), some (V.ref r), some (V.ref k)] = [some (V.ref p), some (V.ref d), some (V.ref r), y]) ∧ Same H (upd H2 r (.dK (putK c' (kS x.f) (.int n)))) ∧ (upd H2 r (.dK (putK c' (kS x.f) (.int n)))) r = some (.dK (applyR c (xs.take (i + 1)))) := fun n e => by
      refine ⟨⟨_, rfl⟩, fun b ob hb => ?_, ?_⟩
      · rw [upd_ne (ne_of_none hb nr)]
        exact sm _ _ hb
      · rw [upd_same, hd2, e]
        rfl
    have hat := sm _ _ hax
    refine ⟨_, .inr (SqT.of hat), .str (deed x.add), rfl, ?_⟩
    refine ite2 (fun e => ?_) (fun e => ?_)
    · have e : x.add = true := deed_add.symm.trans e
      have hg := DGet.k (k := kS x.f) hr2
      rw [hv] at hg
      refine ⟨_, .inr (SqT.of hat), .str x.f, rfl, r, _, rfl, hg, _, .inr (SqT.of hat), .int x.n, rfl, ?_⟩
      refine ⟨_, .inr (SqT.of hat), .str x.f, rfl, r, _, rfl, DPut.k (k := kS x.f) hr2 (line_lt (by omega)), ?_⟩
      exact fin _ (by unfold newN; rw [e, hv]; rfl)
    · have e : x.add = false := deed_add.symm.trans (Bool.eq_false_iff.mpr e)
      refine ⟨_, .inr (SqT.of hat), .int x.n, rfl, ?_⟩
      refine ⟨_, .inr (SqT.of hat), .str x.f, rfl, r, _, rfl, DPut.k (k := kS x.f) hr2 (line_lt (by omega)), ?_⟩
      exact fin _ (by unfold newN; rw [e]; rfl)
  · rintro σ' H2 ⟨⟨y, rfl⟩, sm, hr2⟩
    rw [List.length_map, hrs.len, List.take_length] at hr2
    exact q H2 r sm nr hr2

/-! ### a change out of rows -/
def Good (xs : List Rw) : Prop := (∀ x ∈ xs, isName x.f = true ∧ x.f.length ≤ 12 ∧ Bd x.n) ∧ (xs.map (·.f)).Nodup ∧ xs.length ≤ 3
theorem followed_ne {x y : Rw} (h : ¬ y.f = x.f) : followedR x [y] = x := by
  unfold followedR
  rw [if_neg h]
  rfl
theorem joined_one {xs : List Rw} {y : Rw} (h : y.f ∉ xs.map (·.f)) : joinedR xs [y] = xs ++ [y] := by
  unfold joinedR
  have h1 : xs.map (fun x => followedR x [y]) = xs := by
    have : ∀ x ∈ xs, followedR x [y] = x := fun x hx => followed_ne fun e => h (List.mem_map.mpr ⟨x, hx, e.symm⟩)
    exact (List.map_congr_left this).trans (List.map_id' xs)
  rw [h1, List.filter_cons, if_pos (by simpa using h)]
  rfl
def sp__law_change (K : PySem.W.Frag) : Sp := fun vs H Q _ => ∃ (p : Addr) (rs : List Addr) (xs : List Rw), vs = [.ref p] ∧ H p = some (.lst (rs.map V.ref)) ∧ RowsL H rs xs ∧ Good xs ∧ ∀ (H' : Hp) (a : Addr), Same H H' → ChAt K H' a xs → Q (.ref a) H'
theorem len__law_change {vs : List V} {H : Hp} {Q : VK} {E : XK} (h : sp__law_change K vs H Q E) : vs.length = 1 := by
  obtain ⟨_, _, _, rfl, _⟩ := h
  rfl
theorem nodup_take {xs : List Rw} {i : Nat} {x : Rw} (h : (xs.map (·.f)).Nodup) (hx : xs[i]? = some x) : x.f ∉ (xs.take i).map (·.f) := by
  intro hm
  rw [List.map_take] at hm
  have hd : (xs.map (·.f))[i]? = some x.f := by rw [List.getElem?_map, hx]; rfl
  obtain ⟨j, hj, e⟩ := List.getElem_of_mem hm
  rw [List.length_take] at hj
  obtain ⟨h1, h2⟩ := List.getElem?_eq_some_iff.mp hd
  rw [List.getElem_take] at e
  have := (List.pairwise_iff_getElem.mp h) j i (by omega) h1 (by omega)
  exact this (e.trans h2.symm)
theorem ok__law_change {f : Addr} {fd : FuncData} {f_Change_none : Addr} {fd_Change_none : FuncData} {p_Change_none : Addr} {f_Change_adding : Addr} {fd_Change_adding : FuncData} {p_Change_adding : Addr} {f_Change_setting : Addr} {fd_Change_setting : FuncData} {p_Change_setting : Addr} {f_Change___rshift__ : Addr} {fd_Change___rshift__ : FuncData} (F : Fun K "_law_change" "_law_change" s__law_change f fd) (T : Gs K mg t_BOUND t_LETTERS t_LONGEST_NAME a_RESERVED a_BadName a_BadNumber a_Change a_ElseputError a_TooLarge a_UnknownField) (c_Change_none : CalS P w K mg base CX0 3 a_Change p_Change_none "none" f_Change_none fd_Change_none [] (sp_Change_none K)) (c_Change_adding : CalS P w K mg base CX0 4 a_Change p_Change_adding "adding" f_Change_adding fd_Change_adding ["field", "number"] (sp_Change_adding K)) (c_Change_setting : CalS P w K mg base CX0 4 a_Change p_Change_setting "setting" f_Change_setting fd_Change_setting ["field", "number"] (sp_Change_setting K)) (c_Change___rshift__ : CalO P w K mg base (L2.CX P w) 3 a_Change .RShift f_Change___rshift__ fd_Change___rshift__ ["self", "other"] (sp_Change___rshift__ K)) : FnOk P w K mg base CX0 5 f fd ["_law_rows"] (sp__law_change K) := by
  refine F.ok sc__law_change (fun vs H Q E h => len__law_change h) (fun cdv A outer s H vs Q E hr h => ?_)
  obtain ⟨p, rs, xs, rfl, hp, hrs, ⟨hg, hnd, hl⟩, q⟩ := h
  refine ⟨_, (pss_cons (ps_set (i := 1) sc__law_change.nd rfl (.inl rfl) (pe_smeth0 (pe_glob (v := .ref a_Change) rfl T.g_Change rfl) c_Change_none.rd c_Change_none.sm c_Change_none.G (hr.mono (by first | decide | omega)) c_Change_none.b pass0)) (pss_cons (ps_for PassesOwn.never rfl (pi_list (v_ 0)) (pg_name (i := 2) sc__law_change.nd rfl (.inl rfl)) (pss_one (ps_if (pt_c (eqK K hr.units) (e_x K (v_ 2) pe_int) pe_str) (pss_one (ps_set (i := 1) sc__law_change.nd rfl (.inl rfl) (pe_op (op_own c_Change___rshift__.op c_Change___rshift__.G (hr.mono (by first | decide | omega)) c_Change___rshift__.b passL) (v_ 1) (pe_smeth (pe_glob (v := .ref a_Change) rfl T.g_Change rfl) c_Change_adding.rd c_Change_adding.sm c_Change_adding.G (hr.mono (by first | decide | omega)) c_Change_adding.b pass0 (pa_cons (e_x K (v_ 2) pe_int) (pa_cons (e_x K (v_ 2) pe_int) pa_nil)))))) (pss_one (ps_set (i := 1) sc__law_change.nd rfl (.inl rfl) (pe_op (op_own c_Change___rshift__.op c_Change___rshift__.G (hr.mono (by first | decide | omega)) c_Change___rshift__.b passL) (v_ 1) (pe_smeth (pe_glob (v := .ref a_Change) rfl T.g_Change rfl) c_Change_setting.rd c_Change_setting.sm c_Change_setting.G (hr.mono (by first | decide | omega)) c_Change_setting.b pass0 (pa_cons (e_x K (v_ 2) pe_int) (pa_cons (e_x K (v_ 2) pe_int) pa_nil))))))))) (pss_one (ps_ret (v_ 1))))), ?_⟩
  refine ⟨rfl, rfl, fun H1 a s1 na hA => ?_⟩
  refine ⟨p, rfl, ⟨_, SqL.of (s1 _ _ hp)⟩, ?_⟩
  refine for_list (K := K) (a := p) (xs := rs.map V.ref) (fun i σ' H2 => ∃ (a : Addr) (y : Option V), σ' = [some (.ref p), some (.ref a), y] ∧ Same H H2 ∧ ChAt K H2 a (xs.take i)) ⟨a, _, rfl, s1, hA⟩ (fun i σ' H2 _ ⟨_, _, _, h, _⟩ => SqL.of (h _ _ hp)) ?_ ?_
  · rintro i v σ' H2 hi ⟨a, y, rfl, sm, hA⟩
    rw [List.getElem?_map] at hi
    obtain ⟨k, hk, rfl⟩ := Option.map_eq_some_iff.mp hi
    obtain ⟨x, hx, hax⟩ := hrs.get hk
    obtain ⟨g1, g2, g3, g4⟩ := hg x (List.mem_of_getElem? hx)
    have hat := sm _ _ hax
    have hj : joinedR (xs.take i) [x] = xs.take (i + 1) := by rw [joined_one (nodup_take hnd hx), take_snoc hx]
    have l1 : (xs.take i).length ≤ 10 := by rw [List.length_take]; omega
    have l2 : (xs.take (i + 1)).length ≤ 3 := by rw [List.length_take]; omega
    have join : ∀ {H3 : Hp} {b : Addr} {Q' : VK} {E' : XK}, Same H2 H3 → ChAt K H3 b [x] → (∀ H4 a', Same H3 H4 → ChAt K H4 a' (xs.take (i + 1)) → Q' (.ref a') H4) → sp_Change___rshift__ K [.ref a, .ref b] H3 Q' E' := fun s3 hb k => by
      refine ⟨a, _, xs.take i, [x], rfl, hA.same s3, hb, l1, by show 1 ≤ 10; decide, ?_⟩
      unfold Joins
      rw [hj, if_pos l2]
      exact fun H4 a' s4 _ h4 => k H4 a' s4 h4
    refine ⟨_, .inr (SqT.of hat), .str (deed x.add), rfl, ?_⟩
    obtain ⟨C, dx, t, us, hC, ha, _⟩ := id hA
    cases hC.symm.trans T.n_Change
    have fin : ∀ {H3 : Hp} {b : Addr}, Same H2 H3 → ChAt K H3 b [x] → rOwn a_Change (sp_Change___rshift__ K) E0 (.ref a) (.ref b) H3 fun z H4 => ∃ (a : Addr) (y : Option V), [some (V.ref p), some z, some (V.ref k)] = [some (V.ref p), some (V.ref a), y] ∧ Same H H4 ∧ ChAt K H4 a (xs.take (i + 1)) := fun s3 hb => by
      obtain ⟨C2, dy, t2, us2, hC2, hb2, _⟩ := id hb
      cases hC2.symm.trans T.n_Change
      exact ⟨a, _, dx, _, dy, _, rfl, rfl, s3 _ _ ha, hb2, join s3 hb fun H4 a' s4 h4 => ⟨a', _, rfl, (sm.trans s3).trans s4, h4⟩⟩
    refine ite2 (fun e => ?_) (fun e => ?_)
    · have e : x.add = true := deed_add.symm.trans e
      refine ⟨rfl, _, .inr (SqT.of hat), .str x.f, rfl, _, .inr (SqT.of hat), .int x.n, rfl, _, _, rfl, by omega, g1, g3, g4, fun H3 b s3 nb hb => ?_⟩
      have hb : ChAt K H3 b [x] := by
        have : (⟨x.f, true, x.n⟩ : Rw) = x := by rw [← e]
        rw [← this]
        exact hb
      exact fin s3 hb
    · have e : x.add = false := deed_add.symm.trans (Bool.eq_false_iff.mpr e)
      refine ⟨rfl, _, .inr (SqT.of hat), .str x.f, rfl, _, .inr (SqT.of hat), .int x.n, rfl, _, _, rfl, by omega, g1, g3, g4, fun H3 b s3 nb hb => ?_⟩
      have hb : ChAt K H3 b [x] := by
        have : (⟨x.f, false, x.n⟩ : Rw) = x := by rw [← e]
        rw [← this]
        exact hb
      exact fin s3 hb
  · rintro σ' H2 ⟨a, y, rfl, sm, hA⟩
    rw [List.length_map, hrs.len, List.take_length] at hA
    exact q H2 a sm hA
end
section
variable {P : Program} {w : World} {K : PySem.W.Frag} {mg : Str → Option Value} {base : Heap}
variable {t_BOUND t_LETTERS t_LONGEST_NAME : Tok} {a_RESERVED a_BadName a_BadNumber a_Change a_ElseputError a_TooLarge a_UnknownField : Addr}
theorem strs_of : ∀ {xs : List V} {zs : List Str}, (∀ x ∈ xs, x ∈ zs.map V.str) → ∃ ws : List Str, xs = ws.map V.str ∧ ∀ w ∈ ws, w ∈ zs
  | [], _, _ => ⟨[], rfl, fun _ h => nomatch h⟩
  | x :: r, zs, h => by
    obtain ⟨z, hz, rfl⟩ := List.mem_map.mp (h x List.mem_cons_self)
    obtain ⟨ws, rfl, hw⟩ := strs_of (xs := r) (zs := zs) fun y hy => h y (List.mem_cons_of_mem _ hy)
    exact ⟨z :: ws, rfl, fun w hw' => by
      rcases List.mem_cons.mp hw' with rfl | h'
      · exact hz
      · exact hw w h'⟩
theorem nodup_strs {zs : List Str} (h : zs.Nodup) : (zs.map V.str).Nodup := by
  show List.Pairwise (· ≠ ·) _
  rw [List.pairwise_map]
  exact List.Pairwise.imp (fun h e => h (V.str.inj e)) h
theorem nodup_of_strs {zs : List Str} (h : (zs.map V.str).Nodup) : zs.Nodup := by
  have h : List.Pairwise (· ≠ ·) (zs.map V.str) := h
  rw [List.pairwise_map] at h
  exact List.Pairwise.imp (fun h e => h (congrArg V.str e)) h
def sp__law_some_rows (K : PySem.W.Frag) : Sp := fun vs H Q _ => ∃ (st scr p : Addr) (zs : List Str), vs = [.ref st, .ref p] ∧ DrAt H st scr ∧ H p = some (.lst (zs.map V.str)) ∧ p ≠ st ∧ zs.length ≤ 20 ∧ (∀ z ∈ zs, isName z = true ∧ z.length ≤ 12) ∧ zs.Nodup ∧
  ∀ (H' : Hp) (L : Addr) (rs : List Addr) (xs : List Rw), Bt st H H' → DrAt H' st scr → H L = none → H' L = some (.lst (rs.map V.ref)) → RowsL H' rs xs → Good xs → (∀ x ∈ xs, x.f ∈ zs) → Q (.ref L) H'
theorem len__law_some_rows {vs : List V} {H : Hp} {Q : VK} {E : XK} (h : sp__law_some_rows K vs H Q E) : vs.length = 2 := by
  obtain ⟨_, _, _, _, rfl, _⟩ := h
  rfl
theorem ok__law_some_rows {f : Addr} {fd : FuncData} {f__law_mixed : Addr} {fd__law_mixed : FuncData} {f__law_draw : Addr} {fd__law_draw : FuncData} {f__law_pick : Addr} {fd__law_pick : FuncData} {f__law_constant : Addr} {fd__law_constant : FuncData} (F : Fun K "_law_some_rows" "_law_some_rows" s__law_some_rows f fd) (T : Gs K mg t_BOUND t_LETTERS t_LONGEST_NAME a_RESERVED a_BadName a_BadNumber a_Change a_ElseputError a_TooLarge a_UnknownField) (c__law_mixed : Cal P w K mg base CX0 2 "_law_mixed" f__law_mixed fd__law_mixed ["_law_state_here", "_law_row"] (sp__law_mixed K)) (c__law_draw : Cal P w K mg base CX0 1 "_law_draw" f__law_draw fd__law_draw ["_law_state_here", "_law_many"] (sp__law_draw K)) (c__law_pick : Cal P w K mg base CX0 2 "_law_pick" f__law_pick fd__law_pick ["_law_state_here", "_law_row"] (sp__law_pick K)) (c__law_constant : Cal P w K mg base CX0 3 "_law_constant" f__law_constant fd__law_constant ["_law_state_here"] (sp__law_constant K)) : FnOk P w K mg base CX0 4 f fd ["_law_state_here", "_law_fields"] (sp__law_some_rows K) := by
  refine F.ok sc__law_some_rows (fun vs H Q E h => len__law_some_rows h) (fun cdv A outer s H vs Q E hr h => ?_)
  obtain ⟨st, scr, p, zs, rfl, hd, hp, pst, hzl, hzn, hznd, q⟩ := h
  refine ⟨_, (pss_cons (ps_set (i := 2) sc__law_some_rows.nd rfl (.inl rfl) (pe_lst pa_nil)) (pss_cons (ps_for PassesOwn.never rfl (pi_list (pe_slice (slK K) (pe_call c__law_mixed.G (hr.mono (by first | decide | omega)) rfl c__law_mixed.m c__law_mixed.kp c__law_mixed.b .nil pass0 (pa_cons (v_ 0) (pa_cons (v_ 1) pa_nil))) po_none (po_some (pe_op op_subM pe_int (pe_call c__law_draw.G (hr.mono (by first | decide | omega)) rfl c__law_draw.m c__law_draw.kp c__law_draw.b .nil pass0 (pa_cons (v_ 0) (pa_cons pe_int pa_nil))))))) (pg_name (i := 3) sc__law_some_rows.nd rfl (.inl rfl)) (pss_one (ps_expr (pe_bm PySem.F.plainAttrs_list PySem.F.slot_list_append PySem.F.type_list_append mt_append (v_ 2) (pa_cons (pe_tup (pa_cons (v_ 3) (pa_cons (pe_call c__law_pick.G (hr.mono (by first | decide | omega)) rfl c__law_pick.m c__law_pick.kp c__law_pick.b .nil pass0 (pa_cons (v_ 0) (pa_cons (pe_lst (pa_cons pe_str (pa_cons pe_str pa_nil))) pa_nil))) (pa_cons (pe_call c__law_constant.G (hr.mono (by first | decide | omega)) rfl c__law_constant.m c__law_constant.kp c__law_constant.b .nil pass0 (pa_cons (v_ 0) pa_nil)) pa_nil)))) pa_nil))))) (pss_one (ps_ret (v_ 2))))), ?_⟩
  refine ⟨Nat.zero_le _, fun L nL => ?_⟩
  have Ls : L ≠ st := hd.ne_new nL
  have Lc : L ≠ scr := hd.ne_scr nL
  have hd1 := hd.new (same_new (o := .lst []) nL)
  refine ⟨st, scr, p, _, rfl, hd1, same_new nL _ _ hp, pst, by rw [List.length_map]; omega, fun H2 r ys b2 hd2 nr hr hperm => ?_⟩
  have hL2 := b2 _ _ Ls (upd_same (H := H) (a := L) (o := .lst []))
  have b02 : Bt st H H2 := (Bt.same (same_new nL)).trans b2
  obtain ⟨ws, rfl, hws⟩ := strs_of (xs := ys) (zs := zs) fun x hx => hperm.mem_iff.mp hx
  have hwl : ws.length = zs.length := by
    have := hperm.length_eq
    rwa [List.length_map, List.length_map] at this
  have hwnd : ws.Nodup := nodup_of_strs (hperm.nodup_iff.mpr (nodup_strs hznd))
  refine ⟨st, scr, _, rfl, hd2, by decide, many_small (by decide) (by decide), fun k l k0 k1 hd3 => ?_⟩
  have rst : r ≠ st := hd1.ne_new nr
  have rL : r ≠ L := (ne_of_none (upd_same (H := H) (a := L) (o := .lst [])) nr).symm
  have b03 := b02.trans (Bt.st (st := st) (o := .lst l))
  have hr3 : upd H2 st (.lst l) r = some (.lst (ws.map V.str)) := by rw [upd_ne rst]; exact hr
  have hL3 : upd H2 st (.lst l) L = some (.lst []) := by rw [upd_ne Ls]; exact hL2
  generalize upd H2 st (.lst l) = H3 at hd3 b03 hr3 hL3 ⊢
  refine ⟨3 - k, rfl, .inl ⟨_, SqL.of hr3, fun u nu => ?_⟩⟩
  rw [cutV_take _ (by omega), ← List.map_take]
  have us : u ≠ st := hd3.ne_new nu
  have uL : u ≠ L := (ne_of_none hL3 nu).symm
  have hd4 := hd3.new (same_new (o := .lst ((ws.take (3 - k).toNat).map V.str)) nu)
  have b04 := b03.trans (Bt.same (st := st) (same_new (o := .lst ((ws.take (3 - k).toNat).map V.str)) nu))
  have hu4 := upd_same (H := H3) (a := u) (o := .lst ((ws.take (3 - k).toNat).map V.str))
  have hL4 := same_new (o := .lst ((ws.take (3 - k).toNat).map V.str)) nu _ _ hL3
  generalize upd H3 u (.lst ((ws.take (3 - k).toNat).map V.str)) = H4 at hd4 b04 hu4 hL4 ⊢
  have htl : (ws.take (3 - k).toNat).length ≤ 3 := by rw [List.length_take]; omega
  have htn : (ws.take (3 - k).toNat).Nodup := List.Pairwise.sublist (List.take_sublist _ _) hwnd
  have htm : ∀ w ∈ ws.take (3 - k).toNat, w ∈ zs := fun w hw => hws w (List.mem_of_mem_take hw)
  generalize ws.take (3 - k).toNat = ts at hu4 htl htn htm
  refine ⟨u, rfl, ⟨_, SqL.of hu4⟩, ?_⟩
  refine for_list (K := K) (a := u) (xs := ts.map V.str) (fun i σ' H' => ∃ (y : Option V) (rs : List Addr) (xs : List Rw), σ' = [some (.ref st), some (.ref p), some (.ref L), y] ∧ Bt st H H' ∧ DrAt H' st scr ∧ H' u = some (.lst (ts.map V.str)) ∧ H' L = some (.lst (rs.map V.ref)) ∧ RowsL H' rs xs ∧ xs.map (·.f) = ts.take i ∧ ∀ x ∈ xs, Bd x.n) ⟨_, [], [], rfl, b04, hd4, hu4, hL4, trivial, rfl, fun _ h => nomatch h⟩ (fun i σ' H' _ ⟨_, _, _, _, _, _, h, _⟩ => SqL.of h) ?_ ?_
  · rintro i v σ' H' hi ⟨y, rs, xs, rfl, bt, hdd, hu, hL, hrs, hfs, hbd⟩
    rw [List.getElem?_map] at hi
    obtain ⟨z, hz, rfl⟩ := Option.map_eq_some_iff.mp hi
    refine ⟨.inl ⟨rfl, _, SqL.of hL⟩, ?_⟩
    refine ⟨(by show 2 ≤ sizeLine; decide), fun t1 n1 => ?_⟩
    have hd5 := hdd.new (same_new (o := .lst [.str "add", .str "set"]) n1)
    refine ⟨st, scr, _, rfl, hd5, .inr ⟨t1, _, rfl, upd_same, hdd.ne_new n1, by decide, by decide, fun dv l hdv hd6 => ?_⟩⟩
    obtain ⟨ad, rfl⟩ : ∃ ad : Bool, dv = .str (deed ad) := by
      simp only [List.mem_cons, List.not_mem_nil, or_false] at hdv
      rcases hdv with rfl | rfl
      · exact ⟨true, rfl⟩
      · exact ⟨false, rfl⟩
    refine ⟨st, scr, rfl, hd6, fun l2 m hm hd7 => ?_⟩
    refine ⟨(by show 3 ≤ sizeLine; decide), fun t2 n2 => ?_⟩
    have keep : ∀ b o, b ≠ st → H' b = some o → (upd (upd (upd (upd H' t1 (.lst [.str "add", .str "set"])) st (.lst l)) st (.lst l2)) t2 (.tup [.str z, .str (deed ad), .int m])) b = some o := fun b o nb hb =>
      same_new n2 _ _ (by rw [upd_ne nb, upd_ne nb]; exact same_new n1 _ _ hb)
    have ht2 := upd_same (H := upd (upd (upd H' t1 (.lst [.str "add", .str "set"])) st (.lst l)) st (.lst l2)) (a := t2) (o := .tup [.str z, .str (deed ad), .int m])
    have hd8 := hd7.new (same_new (o := .tup [.str z, .str (deed ad), .int m]) n2)
    generalize upd (upd (upd (upd H' t1 (.lst [.str "add", .str "set"])) st (.lst l)) st (.lst l2)) t2 (.tup [.str z, .str (deed ad), .int m]) = H5 at keep ht2 hd8 ⊢
    have hL5 := keep _ _ Ls hL
    have hxl : xs.length ≤ 3 := by
      have := congrArg List.length hfs
      rw [List.length_map, List.length_take] at this
      omega
    have hrl : rs.length ≤ 3 := by rw [hrs.len]; exact hxl
    refine ⟨L, _, _, rfl, rfl, hL5, line_lt (by rw [List.length_map]; omega), ?_⟩
    have keep2 : ∀ b o, b ≠ st → b ≠ L → H' b = some o → (upd H5 L (.lst (rs.map V.ref ++ [.ref t2]))) b = some o := fun b o nb nl hb => by rw [upd_ne nl]; exact keep _ _ nb hb
    have kt : ∀ c z, H' c = some (.tup z) → (upd H5 L (.lst (rs.map V.ref ++ [.ref t2]))) c = some (.tup z) := fun c z hc => by
      refine keep2 _ _ ?_ (ne_of hc hL (by intro e; cases e)) hc
      obtain ⟨l, hl⟩ := hdd.lst
      exact ne_of hc hl (by intro e; cases e)
    have t2L : t2 ≠ L := by
      intro e
      rw [e, hL5] at ht2
      cases ht2
    refine ⟨_, rs ++ [t2], xs ++ [⟨z, ad, m⟩], rfl, ?_, hd8.at Ls Lc, keep2 _ _ us uL hu, by rw [upd_same, List.map_append]; rfl, (hrs.keep kt).app ⟨by show _ = _; rw [upd_ne t2L]; exact ht2, trivial⟩, ?_, ?_⟩
    · intro b o nb hb
      rw [upd_ne (ne_of_none hb nL)]
      exact keep _ _ nb (bt _ _ nb hb)
    · rw [List.map_append, hfs, take_snoc hz]
      rfl
    · intro x hx
      rcases List.mem_append.mp hx with h | h
      · exact hbd x h
      · rw [List.mem_singleton.mp h]
        exact hm
  · rintro σ' H' ⟨y, rs, xs, rfl, bt, hdd, hu, hL, hrs, hfs, hbd⟩
    rw [List.length_map, List.take_length] at hfs
    refine q H' L rs xs bt hdd nL hL hrs ⟨fun x hx => ?_, by rw [hfs]; exact htn, ?_⟩ fun x hx => ?_
    · have : x.f ∈ ts := by rw [← hfs]; exact List.mem_map_of_mem hx
      exact ⟨(hzn _ (htm _ this)).1, (hzn _ (htm _ this)).2, hbd x hx⟩
    · have := congrArg List.length hfs
      rw [List.length_map] at this
      omega
    · have : x.f ∈ ts := by rw [← hfs]; exact List.mem_map_of_mem hx
      exact htm _ this
end
section
variable {P : Program} {w : World} {K : PySem.W.Frag} {mg : Str → Option Value} {base : Heap}
variable {t_BOUND t_LETTERS t_LONGEST_NAME : Tok} {a_RESERVED a_BadName a_BadNumber a_Change a_ElseputError a_TooLarge a_UnknownField : Addr}
def scanR (x : Rw) (acc : Rw) (ys : List Rw) : Rw := ys.foldl (fun acc y => if y.f = x.f then (if y.add = false then ⟨x.f, false, y.n⟩ else ⟨x.f, x.add, x.n + y.n⟩) else acc) acc
theorem scan_none {x : Rw} : ∀ {ys : List Rw} {acc : Rw}, x.f ∉ ys.map (·.f) → scanR x acc ys = acc
  | [], _, _ => rfl
  | y :: r, acc, h => by
    rw [List.map_cons, List.mem_cons, not_or] at h
    unfold scanR
    rw [List.foldl_cons, if_neg (fun e => h.1 e.symm)]
    exact scan_none (acc := acc) h.2
theorem scan_eq {x : Rw} : ∀ {ys : List Rw}, (ys.map (·.f)).Nodup → scanR x x ys = followedR x ys
  | [], _ => rfl
  | y :: r, h => by
    rw [List.map_cons, List.nodup_cons] at h
    unfold scanR followedR
    rw [List.foldl_cons]
    by_cases e : y.f = x.f
    · rw [if_pos e, if_pos e]
      exact scan_none (by rw [← e]; exact h.1)
    · rw [if_neg e, if_neg e]
      exact scan_eq h.2
theorem scan_snoc {x acc y : Rw} {ys : List Rw} : scanR x acc (ys ++ [y]) = if y.f = x.f then (if y.add = false then ⟨x.f, false, y.n⟩ else ⟨x.f, x.add, x.n + y.n⟩) else scanR x acc ys := by
  unfold scanR
  rw [List.foldl_append]
  rfl
def sp__law_chained (K : PySem.W.Frag) : Sp := fun vs H Q _ => ∃ (p u : Addr) (rs us : List Addr) (xs ys : List Rw), vs = [.ref p, .ref u] ∧ H p = some (.lst (rs.map V.ref)) ∧ H u = some (.lst (us.map V.ref)) ∧ RowsL H rs xs ∧ RowsL H us ys ∧ Good xs ∧ Good ys ∧
  ∀ (H' : Hp) (L : Addr) (ts : List Addr), Same H H' → H L = none → H' L = some (.lst (ts.map V.ref)) → RowsL H' ts (joinedR xs ys) → Q (.ref L) H'
theorem len__law_chained {vs : List V} {H : Hp} {Q : VK} {E : XK} (h : sp__law_chained K vs H Q E) : vs.length = 2 := by
  obtain ⟨_, _, _, _, _, _, rfl, _⟩ := h
  rfl
theorem ok__law_chained {f : Addr} {fd : FuncData} (F : Fun K "_law_chained" "_law_chained" s__law_chained f fd) (T : Gs K mg t_BOUND t_LETTERS t_LONGEST_NAME a_RESERVED a_BadName a_BadNumber a_Change a_ElseputError a_TooLarge a_UnknownField) : FnOk P w K mg base CX0 1 f fd ["_law_first", "_law_second"] (sp__law_chained K) := by
  refine F.ok sc__law_chained (fun vs H Q E h => len__law_chained h) (fun cdv A outer s H vs Q E hr h => ?_)
  obtain ⟨p, u, rs, us, xs, ys, rfl, hp, hu, hrs, hus, gx, gy, q⟩ := h
  have lx := gx.2.2
  have ly := gy.2.2
  refine ⟨_, (pss_cons (ps_set (i := 2) sc__law_chained.nd rfl (.inl rfl) (pe_lst pa_nil)) (pss_cons (ps_for PassesOwn.never rfl (pi_list (v_ 0)) (pg_name (i := 3) sc__law_chained.nd rfl (.inl rfl)) (pss_cons (ps_set (i := 5) sc__law_chained.nd rfl (.inl rfl) (v_ 3)) (pss_cons (ps_for PassesOwn.never rfl (pi_list (v_ 1)) (pg_name (i := 6) sc__law_chained.nd rfl (.inl rfl)) (pss_one (ps_if (PW.pt (pw_and (pt_c (eqK K hr.units) (e_x K (v_ 6) pe_int) (e_x K (v_ 3) pe_int)) (pw_and1 (pt_c (eqK K hr.units) (e_x K (v_ 6) pe_int) pe_str)))) (pss_one (ps_set (i := 5) sc__law_chained.nd rfl (.inl rfl) (v_ 6))) (pss_one (ps_if (pt_c (eqK K hr.units) (e_x K (v_ 6) pe_int) (e_x K (v_ 3) pe_int)) (pss_one (ps_set (i := 5) sc__law_chained.nd rfl (.inl rfl) (pe_tup (pa_cons (e_x K (v_ 3) pe_int) (pa_cons (e_x K (v_ 3) pe_int) (pa_cons (pe_op (addK K) (e_x K (v_ 3) pe_int) (e_x K (v_ 6) pe_int)) pa_nil)))))) pss_nil))))) (pss_one (ps_expr (pe_bm PySem.F.plainAttrs_list PySem.F.slot_list_append PySem.F.type_list_append mt_append (v_ 2) (pa_cons (v_ 5) pa_nil))))))) (pss_cons (ps_set (i := 4) sc__law_chained.nd rfl (.inr rfl) (pe_lc (own := [("_law_row", 3)]) (g := gName 3) (by rfl) sc__law_chained.nd (pi_list (v_ 0)) (blkOk_by (N := ["_law_first", "_law_second", "_law_result", "_law_row", "_law_names_here", "_law_joined", "_law_other"]) (sc := defScope s__law_chained) (by decide +kernel)) (fun _ _ _ _ _ => pg_name (i := 3) sc__law_chained.nd rfl (Or.inl rfl)) (fun _ _ _ _ _ => pts_nil) (fun _ _ _ _ _ => (e_x K (v_ 3) pe_int)))) (pss_one (ps_ret (pe_op (addK K) (v_ 2) (pe_lc (own := [("_law_other", 6)]) (g := gName 6) (by rfl) sc__law_chained.nd (pi_list (v_ 1)) (blkOk_by (N := ["_law_first", "_law_second", "_law_result", "_law_row", "_law_names_here", "_law_joined", "_law_other"]) (sc := defScope s__law_chained) (by decide +kernel)) (fun _ _ _ _ _ => pg_name (i := 6) sc__law_chained.nd rfl (Or.inl rfl)) (fun _ _ _ _ _ => pts_one (pt_c (notInK K) (e_x K (v_ 6) pe_int) (v_ 4))) (fun _ _ _ _ _ => (v_ 6))))))))), ?_⟩
  refine ⟨Nat.zero_le _, fun L nL => ?_⟩
  have sL := same_new (o := .lst []) nL
  refine ⟨p, rfl, ⟨_, SqL.of (sL _ _ hp)⟩, ?_⟩
  refine for_list (K := K) (a := p) (xs := rs.map V.ref) (fun i σ' H' => ∃ (y z w : Option V) (ts : List Addr), σ' = [some (.ref p), some (.ref u), some (.ref L), y, none, z, w] ∧ Same H H' ∧ H' L = some (.lst (ts.map V.ref)) ∧ RowsL H' ts ((xs.take i).map (fun x => followedR x ys))) ⟨_, _, _, [], rfl, sL, upd_same, trivial⟩ (fun i σ' H' _ ⟨_, _, _, _, _, h, _⟩ => SqL.of (h _ _ hp)) ?_ ?_
  · rintro i v σ' H' hi ⟨y, z, w, ts, rfl, sm, hL, hts⟩
    rw [List.getElem?_map] at hi
    obtain ⟨r, hr, rfl⟩ := Option.map_eq_some_iff.mp hi
    obtain ⟨x, hx, hax⟩ := hrs.get hr
    refine ⟨u, rfl, ⟨_, SqL.of (sm _ _ hu)⟩, ?_⟩
    refine for_list (K := K) (a := u) (xs := us.map V.ref) (fun k σ2 H2 => ∃ (j : Addr) (w : Option V), σ2 = [some (.ref p), some (.ref u), some (.ref L), some (.ref r), none, some (.ref j), w] ∧ Same H' H2 ∧ RowAt H2 j (scanR x x (ys.take k))) ⟨r, _, rfl, Same.refl _, sm _ _ hax⟩ (fun k σ2 H2 _ ⟨_, _, _, h, _⟩ => SqL.of (h _ _ (sm _ _ hu))) ?_ ?_
    · rintro k v σ2 H2 hk ⟨j, w, rfl, s2, hj⟩
      rw [List.getElem?_map] at hk
      obtain ⟨o, ho, rfl⟩ := Option.map_eq_some_iff.mp hk
      obtain ⟨y2, hy2, hao⟩ := hus.get ho
      have hao2 := s2 _ _ (sm _ _ hao)
      have hax2 := s2 _ _ (sm _ _ hax)
      have hsc : scanR x x (ys.take (k + 1)) = if y2.f = x.f then (if y2.add = false then ⟨x.f, false, y2.n⟩ else ⟨x.f, x.add, x.n + y2.n⟩) else scanR x x (ys.take k) := by rw [take_snoc hy2, scan_snoc]
      refine ⟨_, .inr (SqT.of hao2), .str y2.f, rfl, _, .inr (SqT.of hax2), .str x.f, rfl, ?_⟩
      refine ite2 (fun e => ?_) (fun e => ?_)
      · have e : y2.f = x.f := of_decide_eq_true e
        refine ⟨_, .inr (SqT.of hao2), .str (deed y2.add), rfl, ?_⟩
        refine ite2 (fun e2 => ?_) (fun e2 => ?_)
        · have e2 : y2.add = false := by simpa using deed_set.symm.trans e2
          refine ⟨o, _, rfl, s2, ?_⟩
          rw [hsc, if_pos e, if_pos e2, ← e, ← e2]
          exact hao2
        · have e2 : y2.add = true := by
            have := deed_set.symm.trans (Bool.eq_false_iff.mpr e2)
            simpa using this
          refine ⟨_, .inr (SqT.of hao2), .str y2.f, rfl, _, .inr (SqT.of hax2), .str x.f, rfl, ?_⟩
          refine ite2 (fun e3 => ?_) (fun e3 => absurd (decide_eq_true e) e3)
          refine ⟨_, .inr (SqT.of hax2), .str x.f, rfl, _, .inr (SqT.of hax2), .str (deed x.add), rfl, _, .inr (SqT.of hax2), .int x.n, rfl, _, .inr (SqT.of hao2), .int y2.n, rfl, (by show 3 ≤ sizeLine; decide), fun t nt => ?_⟩
          refine ⟨t, _, rfl, s2.trans (same_new nt), ?_⟩
          rw [hsc, if_pos e, if_neg (by rw [e2]; decide)]
          exact upd_same
      · have e : ¬ y2.f = x.f := of_decide_eq_false (Bool.eq_false_iff.mpr e)
        refine ite2 (fun e3 => nomatch e3) (fun _ => ?_)
        refine ⟨_, .inr (SqT.of hao2), .str y2.f, rfl, _, .inr (SqT.of hax2), .str x.f, rfl, ?_⟩
        refine ite2 (fun e3 => absurd (of_decide_eq_true e3) e) (fun _ => ?_)
        refine ⟨j, _, rfl, s2, ?_⟩
        rw [hsc, if_neg e]
        exact hj
    · rintro σ2 H2 ⟨j, w, rfl, s2, hj⟩
      rw [List.length_map, hus.len, List.take_length, scan_eq gy.2.1] at hj
      have hL2 := s2 _ _ hL
      have tl : ts.length ≤ 3 := by
        rw [hts.len, List.length_map, List.length_take]
        omega
      refine ⟨.inl ⟨rfl, _, SqL.of hL2⟩, L, _, _, rfl, rfl, hL2, line_lt (by rw [List.length_map]; omega), ?_⟩
      have kt : ∀ c z, H2 c = some (.tup z) → (upd H2 L (.lst (ts.map V.ref ++ [.ref j]))) c = some (.tup z) := fun c z hc => by
        rw [upd_ne (ne_of hc hL2 (by intro e; cases e))]
        exact hc
      refine ⟨_, _, _, ts ++ [j], rfl, fun b o hb => ?_, by rw [upd_same, List.map_append]; rfl, ?_⟩
      · rw [upd_ne (ne_of_none hb nL)]
        exact s2 _ _ (sm _ _ hb)
      · rw [take_snoc hx, List.map_append]
        exact ((hts.same s2).keep kt).app ⟨kt _ _ hj, trivial⟩
  · rintro σ' H' ⟨y, z, w, ts, rfl, sm, hL, hts⟩
    rw [List.length_map, hrs.len, List.take_length] at hts
    have tl : ts.length ≤ 3 := by
      rw [hts.len, List.length_map]
      exact lx
    refine ⟨p, rfl, ⟨_, SqL.of (sm _ _ hp)⟩, fun D nD => ?_⟩
    refine lc_it walk_list (fun i H2 => Same H' H2 ∧ H2 D = some (.lst (((xs.take i).map (·.f)).map V.str))) ⟨same_new nD, upd_same⟩ (fun _ _ _ h => SqL.of (h.1 _ _ (sm _ _ hp))) ?_ ?_
    · rintro i v H1 H2 hi ⟨s1, hD⟩ ⟨rfl, hv⟩
      rw [List.length_map] at hi
      obtain ⟨r, er⟩ : ∃ r, rs[i]? = some r := ⟨_, List.getElem?_eq_getElem hi⟩
      have hv : (rs.map V.ref)[i]? = some v := by
        first | exact hv | exact hv _ (SqL.of (s1 _ _ (sm _ _ hp)))
      rw [List.getElem?_map, er] at hv
      cases hv
      obtain ⟨x, ex, hx⟩ := hrs.get er
      refine ⟨rfl, ?_⟩
      refine ⟨_, .inr (SqT.of (s1 _ _ (sm _ _ hx))), .str x.f, rfl, _, hD, line_lt (by rw [List.length_map, List.length_map, List.length_take]; omega), ?_, ?_⟩
      · intro b o hb
        rw [upd_ne (ne_of_none hb nD)]
        exact s1 _ _ hb
      · rw [upd_same, take_snoc ex, List.map_append, List.map_append]
        rfl
    rintro H1 ⟨s1, hD⟩
    rw [List.length_map, hrs.len, List.take_length] at hD
    have s01 := sm.trans s1
    refine ⟨u, rfl, ⟨_, SqL.of (s01 _ _ hu)⟩, fun D2 nD2 => ?_⟩
    refine lc_it walk_list (fun i H2 => Same H1 H2 ∧ ∃ ts2 : List Addr, H2 D2 = some (.lst (ts2.map V.ref)) ∧ RowsL H2 ts2 ((ys.take i).filter (fun y => !decide (y.f ∈ xs.map (·.f))))) ⟨same_new nD2, [], upd_same, trivial⟩ (fun _ _ _ h => SqL.of (h.1 _ _ (s01 _ _ hu))) ?_ ?_
    · rintro i v H2' H2 hi ⟨sm2, ts2, hD2, hts2⟩ ⟨rfl, hv⟩
      rw [List.length_map] at hi
      obtain ⟨r, er⟩ : ∃ r, us[i]? = some r := ⟨_, List.getElem?_eq_getElem hi⟩
      have hv : (us.map V.ref)[i]? = some v := by
        first | exact hv | exact hv _ (SqL.of (sm2 _ _ (s01 _ _ hu)))
      rw [List.getElem?_map, er] at hv
      cases hv
      obtain ⟨y, ey, hy⟩ := hus.get er
      refine ⟨rfl, ?_⟩
      refine ⟨_, .inr (SqT.of (sm2 _ _ (s01 _ _ hy))), .str y.f, rfl, _, .inl (SqL.of (sm2 _ _ hD)), rfl, flat_strs, ?_⟩
      have hf : (ys.take (i + 1)).filter (fun y => !decide (y.f ∈ xs.map (·.f))) = (ys.take i).filter (fun y => !decide (y.f ∈ xs.map (·.f))) ++ (if (!decide (y.f ∈ xs.map (·.f))) = true then [y] else []) := by
        rw [take_snoc ey, List.filter_append, List.filter_cons, List.filter_nil]
      refine ite2 (fun e => ?_) (fun e => ?_)
      · have e : (!decide (y.f ∈ xs.map (·.f))) = true := by rw [← inV_str]; exact e
        have tl2 : ts2.length ≤ 10 := by
          rw [hts2.len]
          have := List.length_filter_le (fun y : Rw => !decide (y.f ∈ xs.map (·.f))) (ys.take i)
          rw [List.length_take] at this
          omega
        have keep : ∀ c z, H2 c = some (.tup z) → (upd H2 D2 (.lst (ts2.map V.ref ++ [.ref r]))) c = some (.tup z) := fun c z hc => by
          rw [upd_ne (ne_of hc hD2 (by intro e; cases e))]
          exact hc
        refine ⟨_, hD2, line_lt (by rw [List.length_map]; omega), ?_, ts2 ++ [r], by rw [upd_same, List.map_append]; rfl, ?_⟩
        · intro c o hc
          rw [upd_ne (ne_of_none hc nD2)]
          exact sm2 _ _ hc
        · rw [hf, if_pos e]
          exact (hts2.keep keep).app ⟨keep _ _ (sm2 _ _ (s01 _ _ hy)), trivial⟩
      · have e : ¬ (!decide (y.f ∈ xs.map (·.f))) = true := by rw [← inV_str]; exact e
        refine ⟨sm2, ts2, hD2, ?_⟩
        rw [hf, if_neg e, List.append_nil]
        exact hts2
    · rintro H2 ⟨sm2, ts2, hD2, hts2⟩
      rw [List.length_map, hus.len, List.take_length] at hts2
      have t2 : ts2.length ≤ 3 := by
        rw [hts2.len]
        exact Nat.le_trans (List.length_filter_le _ _) ly
      refine .inl ⟨_, _, sm2 _ _ (s1 _ _ hL), hD2, line_of (by rw [List.length_map, List.length_map]; omega), fun r nr => ?_⟩
      have sf := (s01.trans sm2).trans (same_new (o := .lst (ts.map V.ref ++ ts2.map V.ref)) nr)
      refine q _ r (ts ++ ts2) sf (Same.free (s01.trans sm2) nr) (by rw [upd_same, List.map_append]) ?_
      exact ((hts.same (s1.trans sm2)).app hts2).same (same_new nr)
end
section
variable {P : Program} {w : World} {K : PySem.W.Frag} {mg : Str → Option Value} {base : Heap}
variable {t_BOUND t_LETTERS t_LONGEST_NAME : Tok} {a_RESERVED a_BadName a_BadNumber a_Change a_ElseputError a_TooLarge a_UnknownField : Addr}
/-! ### what a joined change does -/
def appN (x : Rw) (o : Int) : Int := if x.add then o + x.n else x.n
def eff (z : Str) (xs : List Rw) (o : Int) : Int := xs.foldl (fun o x => if x.f = z then appN x o else o) o
theorem eff_cons {z : Str} {x : Rw} {xs : List Rw} {o : Int} : eff z (x :: xs) o = eff z xs (if x.f = z then appN x o else o) := rfl
theorem eff_app {z : Str} {xs ys : List Rw} {o : Int} : eff z (xs ++ ys) o = eff z ys (eff z xs o) := by
  unfold eff
  rw [List.foldl_append]
theorem eff_none {z : Str} : ∀ {xs : List Rw} {o : Int}, z ∉ xs.map (·.f) → eff z xs o = o
  | [], _, _ => rfl
  | x :: r, o, h => by
    rw [List.map_cons, List.mem_cons, not_or] at h
    rw [eff_cons, if_neg (fun e => h.1 e.symm), eff_none h.2]
theorem eff_one {z : Str} : ∀ {xs : List Rw} {x : Rw} {o : Int}, (xs.map (·.f)).Nodup → x ∈ xs → x.f = z → eff z xs o = appN x o
  | [], _, _, _, h, _ => nomatch h
  | y :: r, x, o, hn, hx, e => by
    rw [List.map_cons, List.nodup_cons] at hn
    rw [eff_cons]
    rcases List.mem_cons.mp hx with rfl | hx
    · rw [if_pos e, eff_none (by rw [← e]; exact hn.1)]
    · have : ¬ y.f = z := fun h => hn.1 (by rw [h, ← e]; exact List.mem_map_of_mem hx)
      rw [if_neg this, eff_one hn.2 hx e]
theorem followed_f {x : Rw} : ∀ {ys : List Rw}, (followedR x ys).f = x.f
  | [] => rfl
  | y :: r => by
    unfold followedR
    split
    · split <;> rfl
    · exact followed_f
theorem followed_app {x : Rw} {o : Int} : ∀ {ys : List Rw}, (ys.map (·.f)).Nodup → appN (followedR x ys) o = eff x.f ys (appN x o)
  | [], _ => rfl
  | y :: r, h => by
    rw [List.map_cons, List.nodup_cons] at h
    rw [eff_cons, followedR]
    by_cases e : y.f = x.f
    · rw [if_pos e, if_pos e, eff_none (by rw [← e]; exact h.1)]
      cases hy : y.add with
      | false =>
        rw [if_pos rfl]
        unfold appN
        rw [hy]
        rfl
      | true =>
        rw [if_neg (by decide)]
        unfold appN
        rw [hy]
        cases x.add with
        | true => show o + (x.n + y.n) = o + x.n + y.n; omega
        | false => rfl
    · rw [if_neg e, if_neg e]
      exact followed_app h.2
theorem eff_filter {z : Str} {P : Rw → Bool} : ∀ {ys : List Rw} {o : Int}, (∀ y, y.f = z → P y = true) → eff z (ys.filter P) o = eff z ys o
  | [], _, _ => rfl
  | y :: r, o, h => by
    rw [List.filter_cons, eff_cons]
    by_cases e : y.f = z
    · rw [if_pos (h y e), eff_cons, if_pos e, eff_filter h]
    · rw [if_neg e]
      split
      · rw [eff_cons, if_neg e, eff_filter h]
      · exact eff_filter h
theorem eff_joined {z : Str} {xs ys : List Rw} {o : Int} (hx : (xs.map (·.f)).Nodup) (hy : (ys.map (·.f)).Nodup) : eff z (joinedR xs ys) o = eff z ys (eff z xs o) := by
  unfold joinedR
  have hm : (xs.map (fun x => followedR x ys)).map (·.f) = xs.map (·.f) := by
    rw [List.map_map]
    exact List.map_congr_left fun x _ => followed_f
  rw [eff_app]
  by_cases h : z ∈ xs.map (·.f)
  · obtain ⟨x, hxm, rfl⟩ := List.mem_map.mp h
    have e1 : eff x.f (xs.map (fun x => followedR x ys)) o = appN (followedR x ys) o := eff_one (x := followedR x ys) (by rw [hm]; exact hx) (List.mem_map.mpr ⟨x, hxm, rfl⟩) followed_f
    have e2 : eff x.f xs o = appN x o := eff_one hx hxm rfl
    rw [e1, followed_app hy, e2]
    refine eff_none fun hz => ?_
    obtain ⟨y, hy1, e⟩ := List.mem_map.mp hz
    have := (List.mem_filter.mp hy1).2
    rw [Bool.not_eq_true', decide_eq_false_iff_not] at this
    exact this (by rw [e]; exact h)
  · have e1 : eff z (xs.map (fun x => followedR x ys)) o = o := eff_none (by rw [hm]; exact h)
    have e2 : eff z xs o = o := eff_none h
    rw [e1, e2]
    refine eff_filter fun y e => ?_
    rw [Bool.not_eq_true', decide_eq_false_iff_not, e]
    exact h
theorem kS_inj {a b : Str} (h : kS a = kS b) : a = b := Sum.inr.inj h
theorem val_app {z : Str} : ∀ {xs : List Rw} {c : Ct} {o : Int}, valV c (kS z) = some (.int o) → valV (applyR c xs) (kS z) = some (.int (eff z xs o))
  | [], _, _, h => h
  | x :: r, c, o, h => by
    show valV (applyR (stepR c x) r) (kS z) = _
    rw [eff_cons]
    refine val_app ?_
    unfold stepR
    rw [valV_put]
    by_cases e : x.f = z
    · rw [if_pos (by rw [e]), if_pos e]
      unfold newN appN
      rw [e, h]
    · rw [if_neg (fun h => e (kS_inj h).symm), if_neg e]
      exact h
theorem val_out {k : Key} : ∀ {xs : List Rw} {c : Ct}, (∀ x ∈ xs, k ≠ kS x.f) → valV (applyR c xs) k = valV c k
  | [], _, _ => rfl
  | x :: r, c, h => by
    show valV (applyR (stepR c x) r) k = _
    rw [val_out fun y hy => h y (List.mem_cons_of_mem _ hy)]
    unfold stepR
    rw [valV_put, if_neg (h x List.mem_cons_self)]
theorem joined_mem {xs ys : List Rw} {x : Rw} (h : x ∈ joinedR xs ys) : (∃ y ∈ xs, y.f = x.f) ∨ ∃ y ∈ ys, y.f = x.f := by
  unfold joinedR at h
  rcases List.mem_append.mp h with h | h
  · obtain ⟨y, hy, rfl⟩ := List.mem_map.mp h
    exact .inl ⟨y, hy, followed_f.symm⟩
  · exact .inr ⟨x, (List.mem_filter.mp h).1, rfl⟩
theorem val_joined {xs ys : List Rw} {c : Ct} (hx : (xs.map (·.f)).Nodup) (hy : (ys.map (·.f)).Nodup) (hI : Ints c) (hF : ∀ x, x ∈ xs ∨ x ∈ ys → HasF c x.f) (k : Key) : valV (applyR c (joinedR xs ys)) k = valV (applyR (applyR c xs) ys) k := by
  by_cases h : ∃ x, (x ∈ xs ∨ x ∈ ys) ∧ k = kS x.f
  · obtain ⟨x, hxy, rfl⟩ := h
    obtain ⟨v, hv⟩ := Option.isSome_iff_exists.mp (hF x hxy)
    obtain ⟨o, rfl⟩ := hI _ _ hv
    rw [val_app hv, val_app (val_app hv), eff_joined hx hy]
  · have ho : ∀ x, x ∈ xs ∨ x ∈ ys → k ≠ kS x.f := fun x hx e => h ⟨x, hx, e⟩
    rw [val_out fun x hx => ho x (.inr hx), val_out fun x hx => ho x (.inl hx), val_out fun x hx => ?_]
    rcases joined_mem hx with ⟨y, hy, e⟩ | ⟨y, hy, e⟩
    · rw [← e]; exact ho y (.inl hy)
    · rw [← e]; exact ho y (.inr hy)
theorem val_has {c : Ct} {i : Nat} {k : Key} {v : V} (h : c[i]? = some (k, v)) : ∃ v', valV c k = some v' := by
  unfold valV
  cases hf : c.find? (fun kv => decide (kv.1 = k)) with
  | none =>
    have := List.find?_eq_none.mp hf (k, v) (List.mem_of_getElem? h)
    simp at this
  | some p => exact ⟨_, rfl⟩
def sp__law_do (K : PySem.W.Frag) : Sp := fun vs H Q _ => ∃ (a b : Addr) (xs ys : List Rw), vs = [.ref a, .ref b] ∧ ChAt K H a xs ∧ ChAt K H b ys ∧ xs.length ≤ 10 ∧ ys.length ≤ 10 ∧
  (if (joinedR xs ys).length ≤ 3 then ∀ (H' : Hp) (t u : Addr) (rs : List Addr), Same H H' → H' t = some (.tup [.str "let", .ref u]) → H' u = some (.tup (rs.map V.ref)) → RowsL H' rs (joinedR xs ys) → Q (.ref t) H'
    else ∀ (H' : Hp) (t : Addr), Same H H' → H' t = some (.tup [.str "refused", .int 3]) → Q (.ref t) H')
theorem len__law_do {vs : List V} {H : Hp} {Q : VK} {E : XK} (h : sp__law_do K vs H Q E) : vs.length = 2 := by
  obtain ⟨_, _, _, _, rfl, _⟩ := h
  rfl
theorem ok__law_do {f : Addr} {fd : FuncData} {f_Change___rshift__ : Addr} {fd_Change___rshift__ : FuncData} (F : Fun K "_law_do" "_law_do" s__law_do f fd) (T : Gs K mg t_BOUND t_LETTERS t_LONGEST_NAME a_RESERVED a_BadName a_BadNumber a_Change a_ElseputError a_TooLarge a_UnknownField) (c_Change___rshift__ : CalO P w K mg base (L2.CX P w) 3 a_Change .RShift f_Change___rshift__ fd_Change___rshift__ ["self", "other"] (sp_Change___rshift__ K)) : FnOk P w K mg base CX0 4 f fd ["_law_one", "_law_other"] (sp__law_do K) := by
  refine F.ok sc__law_do (fun vs H Q E h => len__law_do h) (fun cdv A outer s H vs Q E hr h => ?_)
  obtain ⟨a, b, xs, ys, rfl, hA, hB, lx, ly, q⟩ := h
  obtain ⟨C, dx, t, rs, hC, ha, _⟩ := id hA
  obtain ⟨C2, dy, u, us, hC2, hb, _⟩ := id hB
  cases hC.symm.trans T.n_Change
  cases hC2.symm.trans T.n_Change
  refine ⟨_, (pss_cons (ps_try_as (i := 2) rfl rfl sc__law_do.nd rfl rfl ⟨rfl, by decide +kernel, .inl T.g_ElseputError⟩ takes0 (fun W pn xe tk po => (pss_one (ps_ret (pe_tup (pa_cons pe_str (pa_cons (e_f K (pe_bopS c_Change___rshift__.op c_Change___rshift__.G (hr.mono (by first | decide | omega)) c_Change___rshift__.b (fun σ => passAt tk σ) (v_ 0) (v_ 1))) pa_nil)))))) (fun ea oe ecls ed epn hz hf => (pss_one (ps_if (PW.pt (pw_and (pt_t K (pe_callB (call_isX hz hf) (by rfl) T.z_isinstance (by decide +kernel) (pa_cons (v_ 2) (pa_cons (pe_glob (v := .ref a_TooLarge) rfl T.g_TooLarge rfl) pa_nil)))) (pw_and (pt_t K (pe_callB (call_isX hz hf) (by rfl) T.z_isinstance (by decide +kernel) (pa_cons (v_ 2) (pa_cons (pe_bltn (v := .ty "ValueError") (u := .type "ValueError") (by rfl) T.z_ValueError (by decide +kernel) rfl) pa_nil)))) (pw_and1 (pt_not (pt_t K (pe_callB (call_isX hz hf) (by rfl) T.z_isinstance (by decide +kernel) (pa_cons (v_ 2) (pa_cons (pe_glob (v := .ref a_BadNumber) rfl T.g_BadNumber rfl) pa_nil))))))))) (pss_one (ps_ret (pe_tup (pa_cons pe_str (pa_cons (pe_xf T.x_TooLarge.xf (T.x_TooLarge.no _ (by decide)) hz hf (v_ 2)) pa_nil))))) pss_nil)))) (pss_one (ps_ret (pe_tup (pa_cons pe_str pa_nil))))), ?_⟩
  refine ⟨a, b, dx, _, dy, _, rfl, rfl, ha, hb, a, b, xs, ys, rfl, hA, hB, lx, ly, ?_⟩
  unfold Joins
  split
  · rename_i hl
    rw [if_pos hl] at q
    intro H' a' sm na hA'
    obtain ⟨C3, dz, t3, rs3, hC3, ha3, ht3, hrs3⟩ := id hA'
    cases hC3.symm.trans T.n_Change
    refine ⟨a', a_Change, dz, _, _, rfl, ha3, T.cl_Change, T.na_Change_assignments, rfl, ?_⟩
    refine ⟨(by show 2 ≤ sizeLine; decide), fun t nt => ?_⟩
    exact q _ t t3 rs3 (sm.trans (same_new nt)) upd_same (same_new nt _ _ ht3) (hrs3.same (same_new nt))
  · rename_i hl
    rw [if_neg hl] at q
    intro C3 d H' hC3 sm nd hd
    cases hC3.symm.trans T.n_TooLarge
    refine ⟨true, T.m_TooLarge_ElseputError, fun _ e ne => ?_, fun h => nomatch h⟩
    refine ⟨_, d, _, _, _, true, rfl, rfl, rfl, hd, T.x_TooLarge.is, fun u h => h, T.k_TooLarge_TooLarge, ?_⟩
    refine ⟨_, d, _, _, _, true, rfl, rfl, rfl, hd, T.x_TooLarge.is, fun u h => h, T.k_TooLarge_ValueError, ?_⟩
    refine ⟨_, d, _, _, _, false, rfl, rfl, rfl, hd, T.x_TooLarge.is, fun u h => h, T.k_TooLarge_BadNumber, ?_⟩
    refine ⟨rfl, rfl, d, _, _, rfl, hd, rfl, (by show 2 ≤ sizeLine; decide), fun t nt => ?_⟩
    exact q _ t (sm.trans (same_new nt)) upd_same
end
section
variable {P : Program} {w : World} {K : PySem.W.Frag} {mg : Str → Option Value} {base : Heap}
variable {t_BOUND t_LETTERS t_LONGEST_NAME : Tok} {a_RESERVED a_BadName a_BadNumber a_Change a_ElseputError a_TooLarge a_UnknownField : Addr}
theorem same_row {H : Hp} {r u : Addr} {x : Rw} {n : Nat} (h1 : RowAt H r x) (h2 : RowAt H u x) : SameV H (n + 2) (.ref r) (.ref u) := by
  refine .inr (.inr (.inl ⟨r, u, _, _, rfl, rfl, .inr ⟨h1, h2⟩, rfl, (by show 3 ≤ 1000; decide), fun i a b ha hb => ?_⟩))
  rw [ha] at hb
  cases hb
  match i, ha with
  | 0, ha => cases ha; exact .inr (.inl ⟨_, rfl, rfl⟩)
  | 1, ha => cases ha; exact .inr (.inl ⟨_, rfl, rfl⟩)
  | 2, ha => cases ha; exact .inl ⟨_, rfl, rfl⟩
  | i + 3, ha => cases ha
theorem same_rows {H : Hp} {n : Nat} : ∀ {rs us : List Addr} {xs : List Rw}, RowsL H rs xs → RowsL H us xs → ∀ (i : Nat) (a b : V), (rs.map V.ref)[i]? = some a → (us.map V.ref)[i]? = some b → SameV H (n + 2) a b
  | [], _, _, _, _, i, a, b, h, _ => by simp at h
  | r :: rs, [], [], h, _, _, _, _, _, _ => False.elim h
  | r :: rs, u :: us, x :: xs, ⟨h1, t1⟩, ⟨h2, t2⟩, i, a, b, ha, hb => by
    cases i with
    | zero =>
      simp at ha hb
      subst ha hb
      exact same_row h1 h2
    | succ i => exact same_rows t1 t2 i a b (by simpa using ha) (by simpa using hb)
theorem same_tup {H : Hp} {t u : Addr} {rs us : List Addr} {xs : List Rw} {n : Nat} (h1 : H t = some (.tup (rs.map V.ref))) (h2 : H u = some (.tup (us.map V.ref))) (r1 : RowsL H rs xs) (r2 : RowsL H us xs) (hl : xs.length ≤ 1000) : SameV H (n + 3) (.ref t) (.ref u) :=
  .inr (.inr (.inl ⟨t, u, _, _, rfl, rfl, .inr ⟨h1, h2⟩, by rw [List.length_map, List.length_map, r1.len, r2.len], by rw [List.length_map, r2.len]; exact hl, same_rows r1 r2⟩))
theorem same_let {H : Hp} {t t2 u v : Addr} {n : Nat} (h1 : H t = some (.tup [.str "let", .ref u])) (h2 : H t2 = some (.tup [.str "let", .ref v])) (h : SameV H (n + 1) (.ref u) (.ref v)) : SameV H (n + 2) (.ref t) (.ref t2) := by
  refine .inr (.inr (.inl ⟨t, t2, _, _, rfl, rfl, .inr ⟨h1, h2⟩, rfl, (by show 2 ≤ 1000; decide), fun i a b ha hb => ?_⟩))
  match i, ha, hb with
  | 0, ha, hb => cases ha; cases hb; exact .inr (.inl ⟨_, rfl, rfl⟩)
  | 1, ha, hb => cases ha; cases hb; exact h
  | i + 2, ha, hb => cases ha
theorem same_ref3 {H : Hp} {t t2 : Addr} {n : Nat} (h1 : H t = some (.tup [.str "refused", .int 3])) (h2 : H t2 = some (.tup [.str "refused", .int 3])) : SameV H (n + 2) (.ref t) (.ref t2) := by
  refine .inr (.inr (.inl ⟨t, t2, _, _, rfl, rfl, .inr ⟨h1, h2⟩, rfl, (by show 2 ≤ 1000; decide), fun i a b ha hb => ?_⟩))
  rw [ha] at hb
  cases hb
  match i, ha with
  | 0, ha => cases ha; exact .inr (.inl ⟨_, rfl, rfl⟩)
  | 1, ha => cases ha; exact .inl ⟨_, rfl, rfl⟩
  | i + 2, ha => cases ha
def sp__law_joins (K : PySem.W.Frag) : Sp := fun vs H Q _ => ∃ (a b p u d : Addr) (rs us : List Addr) (xs ys : List Rw) (c : Ct), vs = [.ref a, .ref b, .ref p, .ref u, .ref d] ∧ ChAt K H a xs ∧ ChAt K H b ys ∧ H p = some (.lst (rs.map V.ref)) ∧ RowsL H rs xs ∧ Good xs ∧ H u = some (.lst (us.map V.ref)) ∧ RowsL H us ys ∧ Good ys ∧
  H d = some (.dK c) ∧ Ints c ∧ c.length ≤ 100 ∧ (∀ x, x ∈ xs ∨ x ∈ ys → HasF c x.f) ∧ ∀ H', Same H H' → Q (.bl true) H'
theorem len__law_joins {vs : List V} {H : Hp} {Q : VK} {E : XK} (h : sp__law_joins K vs H Q E) : vs.length = 5 := by
  obtain ⟨_, _, _, _, _, _, _, _, _, _, rfl, _⟩ := h
  rfl
theorem ok__law_joins {f : Addr} {fd : FuncData} {f__law_chained : Addr} {fd__law_chained : FuncData} {f__law_changed : Addr} {fd__law_changed : FuncData} {f__law_same : Addr} {fd__law_same : FuncData} {f__law_do : Addr} {fd__law_do : FuncData} {f_Change___rshift__ : Addr} {fd_Change___rshift__ : FuncData} {f_Change___call__ : Addr} {fd_Change___call__ : FuncData} (F : Fun K "_law_joins" "_law_joins" s__law_joins f fd) (T : Gs K mg t_BOUND t_LETTERS t_LONGEST_NAME a_RESERVED a_BadName a_BadNumber a_Change a_ElseputError a_TooLarge a_UnknownField) (c__law_chained : Cal P w K mg base CX0 1 "_law_chained" f__law_chained fd__law_chained ["_law_first", "_law_second"] (sp__law_chained K)) (c__law_changed : Cal P w K mg base CX0 1 "_law_changed" f__law_changed fd__law_changed ["_law_rows", "_law_content"] (sp__law_changed K)) (c__law_same : Cal P w K mg base CX0 6 "_law_same" f__law_same fd__law_same ["_law_actual", "_law_due"] (sp__law_same K)) (c__law_do : Cal P w K mg base CX0 4 "_law_do" f__law_do fd__law_do ["_law_one", "_law_other"] (sp__law_do K)) (c_Change___rshift__ : CalO P w K mg base (L2.CX P w) 3 a_Change .RShift f_Change___rshift__ fd_Change___rshift__ ["self", "other"] (sp_Change___rshift__ K)) (c_Change___call__ : CalC P w K mg base CX0 3 a_Change f_Change___call__ fd_Change___call__ ["self", "content"] (sp_Change___call__ K)) : FnOk P w K mg base CX0 9 f fd ["_law_one", "_law_other", "_law_first", "_law_second", "_law_content"] (sp__law_joins K) := by
  refine F.ok sc__law_joins (fun vs H Q E h => len__law_joins h) (fun cdv A outer s H vs Q E hr h => ?_)
  obtain ⟨a, b, p, u, d, rs, us, xs, ys, c, rfl, hA, hB, hp, hrs, gx, hu, hus, gy, hd, hI, hcl, hF, q⟩ := h
  obtain ⟨C, dx, t, _, hC, ha, _⟩ := id hA
  obtain ⟨C2, dy, t2, _, hC2, hb, _⟩ := id hB
  cases hC.symm.trans T.n_Change
  cases hC2.symm.trans T.n_Change
  have lx := gx.2.2
  have ly := gy.2.2
  refine ⟨_, (pss_cons (ps_set (i := 5) sc__law_joins.nd rfl (.inl rfl) (pe_call c__law_chained.G (hr.mono (by first | decide | omega)) rfl c__law_chained.m c__law_chained.kp c__law_chained.b .nil pass0 (pa_cons (v_ 2) (pa_cons (v_ 3) pa_nil)))) (pss_cons (ps_if (pt_c op_gtM (pe_callB (lenK K) (by rfl) T.z_len PySem.boot_len (pa_cons (v_ 5) pa_nil)) pe_int) (pss_one (ps_ret (pe_call c__law_same.G (hr.mono (by first | decide | omega)) rfl c__law_same.m c__law_same.kp c__law_same.b .nil pass0 (pa_cons (pe_call c__law_do.G (hr.mono (by first | decide | omega)) rfl c__law_do.m c__law_do.kp c__law_do.b .nil pass0 (pa_cons (v_ 0) (pa_cons (v_ 1) pa_nil))) (pa_cons (pe_tup (pa_cons pe_str (pa_cons pe_int pa_nil))) pa_nil))))) pss_nil) (pss_cons (ps_if (pt_not (pt_t K (pe_call c__law_same.G (hr.mono (by first | decide | omega)) rfl c__law_same.m c__law_same.kp c__law_same.b .nil pass0 (pa_cons (pe_call c__law_do.G (hr.mono (by first | decide | omega)) rfl c__law_do.m c__law_do.kp c__law_do.b .nil pass0 (pa_cons (v_ 0) (pa_cons (v_ 1) pa_nil))) (pa_cons (pe_tup (pa_cons pe_str (pa_cons (pe_callTy (tupleK K) (by rfl) T.z_tuple (by decide +kernel) (pa_cons (v_ 5) pa_nil)) pa_nil))) pa_nil))))) (pss_one (ps_ret pe_bl)) pss_nil) (pss_cons (ps_set (i := 6) sc__law_joins.nd rfl (.inl rfl) (pe_call c__law_changed.G (hr.mono (by first | decide | omega)) rfl c__law_changed.m c__law_changed.kp c__law_changed.b .nil pass0 (pa_cons (v_ 3) (pa_cons (pe_call c__law_changed.G (hr.mono (by first | decide | omega)) rfl c__law_changed.m c__law_changed.kp c__law_changed.b .nil pass0 (pa_cons (v_ 2) (pa_cons (v_ 4) pa_nil))) pa_nil)))) (pss_one (ps_ret (pe_call c__law_same.G (hr.mono (by first | decide | omega)) rfl c__law_same.m c__law_same.kp c__law_same.b .nil pass0 (pa_cons (StX.pe_callO (pe_op (op_own c_Change___rshift__.op c_Change___rshift__.G (hr.mono (by first | decide | omega)) c_Change___rshift__.b passL) (v_ 0) (v_ 1)) c_Change___call__.co (FnOk.raw c_Change___call__.G c_Change___call__.b .nil) (hr.mono (by first | decide | omega)) pass0 (pa_cons (pe_callTy call_dictD (by rfl) T.z_dict (by decide +kernel) (pa_cons (v_ 4) pa_nil)) pa_nil)) (pa_cons (v_ 6) pa_nil))))))))), ?_⟩
  refine ⟨p, u, rs, us, xs, ys, rfl, hp, hu, hrs, hus, gx, gy, fun H1 L ts s1 nL hL hts => ?_⟩
  have hlen : ts.length = (joinedR xs ys).length := hts.len
  refine .inl ⟨_, .inl (SqL.of hL), ?_⟩
  rw [List.length_map]
  refine ite2 (fun e => ?_) (fun e => ?_)
  · have e : (3 : Int) < ts.length := of_decide_eq_true e
    refine ⟨a, b, xs, ys, rfl, hA.same s1, hB.same s1, by omega, by omega, ?_⟩
    rw [if_neg (by omega)]
    intro H2 t3 s2 ht3
    refine ⟨(by show 2 ≤ sizeLine; decide), fun t4 n4 => ?_⟩
    have s4 := same_new (o := .tup [.str "refused", .int 3]) n4
    exact ⟨_, _, rfl, same_ref3 (s4 _ _ ht3) upd_same, q _ ((s1.trans s2).trans s4)⟩
  · have e : ¬ (3 : Int) < ts.length := of_decide_eq_false (Bool.eq_false_iff.mpr e)
    refine ⟨a, b, xs, ys, rfl, hA.same s1, hB.same s1, by omega, by omega, ?_⟩
    rw [if_pos (by omega)]
    intro H2 t3 u3 rs3 s2 ht3 hu3 hrs3
    refine ⟨L, _, rfl, .inl ⟨SqL.of (s2 _ _ hL), fun v nv => ?_⟩⟩
    have sv := same_new (o := .tup (ts.map V.ref)) nv
    refine ⟨(by show 2 ≤ sizeLine; decide), fun t4 n4 => ?_⟩
    have s4 := same_new (o := .tup [.str "let", .ref v]) n4
    have s24 := sv.trans s4
    refine ⟨_, _, rfl, same_let (s24 _ _ ht3) upd_same (same_tup (s24 _ _ hu3) (s4 _ _ upd_same) (hrs3.same s24) ((hts.same s2).same s24) (by omega)), ?_⟩
    have s := (s1.trans s2).trans s24
    generalize upd (upd H2 v (.tup (ts.map V.ref))) t4 (.tup [.str "let", .ref v]) = H4 at s ⊢
    clear s24 s4 sv
    refine ⟨p, d, rs, xs, c, rfl, s _ _ hp, hrs.same s, by omega, s _ _ hd, hI, hcl, fun x hx => hF x (.inl hx), fun H5 d5 s5 n5 hd5 => ?_⟩
    have s05 := s.trans s5
    have l5 : (applyR c xs).length = c.length := app_len xs fun x hx => hF x (.inl hx)
    refine ⟨u, d5, us, ys, _, rfl, s05 _ _ hu, hus.same s05, by omega, hd5, hI.app xs, by omega, fun x hx => (hF x (.inr hx)).app xs, fun H6 d6 s6 n6 hd6 => ?_⟩
    have s06 := s05.trans s6
    refine ⟨a, b, dx, _, dy, _, rfl, rfl, s06 _ _ ha, s06 _ _ hb, a, b, xs, ys, rfl, hA.same s06, hB.same s06, by omega, by omega, ?_⟩
    unfold Joins
    rw [if_pos (by omega)]
    intro H7 e7 s7 n7 hJ
    refine ⟨e7, rfl, d, c, rfl, .inl (s7 _ _ (s06 _ _ hd)), fun d8 n8 => ?_⟩
    have s8 := same_new (o := .dK c) n8
    obtain ⟨C7, dz, t7, us7, hC7, he7, _⟩ := id hJ
    cases hC7.symm.trans T.n_Change
    have hFj : ∀ x ∈ joinedR xs ys, HasF c x.f := fun x hx => by
      rcases joined_mem hx with ⟨y, hy, e⟩ | ⟨y, hy, e⟩
      · rw [← e]; exact hF y (.inl hy)
      · rw [← e]; exact hF y (.inr hy)
    refine ⟨.inr ⟨dz, _, s8 _ _ he7⟩, e7, d8, joinedR xs ys, c, rfl, hJ.same s8, by omega, upd_same, hI, hcl, hFj, fun H9 r s9 n9 hr => ?_⟩
    have s69 := (s7.trans s8).trans s9
    refine ⟨_, _, rfl, .inr (.inr (.inr ⟨r, d6, _, _, rfl, rfl, hr, s69 _ _ hd6, ?_, by decide, fun i k v hk => ?_⟩)), q _ (s06.trans s69)⟩
    · rw [app_len _ hFj, app_len ys fun x hx => (hF x (.inr hx)).app xs, l5]
    · obtain ⟨v', hv'⟩ := val_has hk
      obtain ⟨m, rfl⟩ := ((hI.app xs).app ys) _ _ hv'
      exact ⟨m, hv', (val_joined gx.2.1 gy.2.1 hI hF k).trans hv'⟩
end
section
variable {P : Program} {w : World} {K : PySem.W.Frag} {mg : Str → Option Value} {base : Heap}
variable {t_BOUND t_LETTERS t_LONGEST_NAME : Tok} {a_RESERVED a_BadName a_BadNumber a_Change a_ElseputError a_TooLarge a_UnknownField : Addr}
def sp_Change___len__ (K : PySem.W.Frag) : Sp := fun vs H Q _ => ∃ (a : Addr) (xs : List Rw), vs = [.ref a] ∧ ChAt K H a xs ∧ Q (.int (xs.length : Int)) H
theorem len_Change___len__ {vs : List V} {H : Hp} {Q : VK} {E : XK} (h : sp_Change___len__ K vs H Q E) : vs.length = 1 := by
  obtain ⟨_, _, rfl, _⟩ := h
  rfl
theorem ok_Change___len__ {f : Addr} {fd : FuncData} (F : Fun K "__len__" "Change.__len__" s_Change___len__ f fd) (T : Gs K mg t_BOUND t_LETTERS t_LONGEST_NAME a_RESERVED a_BadName a_BadNumber a_Change a_ElseputError a_TooLarge a_UnknownField) : FnOk P w K mg base CX0 1 f fd ["self"] (sp_Change___len__ K) := by
  refine F.ok sc_Change___len__ (fun vs H Q E h => len_Change___len__ h) (fun cdv A outer s H vs Q E hr h => ?_)
  obtain ⟨a, xs, rfl, ⟨C, dx, t, rs, hC, ha, ht, hrs⟩, q⟩ := h
  cases hC.symm.trans T.n_Change
  refine ⟨_, (pss_one (ps_ret (pe_callB (lenK K) (by rfl) T.z_len PySem.boot_len (pa_cons (e_f K (v_ 0)) pa_nil)))), ?_⟩
  refine ⟨a, a_Change, dx, _, _, rfl, ha, T.cl_Change, T.na_Change_assignments, rfl, ?_⟩
  refine .inl ⟨_, .inr (SqT.of ht), ?_⟩
  rw [List.length_map, hrs.len]
  exact q
/-! ### the law -/
def LG (H : Hp) (zs : List Str) (p : Addr) (xs : List Rw) : Prop := ∃ rs : List Addr, H p = some (.lst (rs.map V.ref)) ∧ RowsL H rs xs ∧ Good xs ∧ ∀ x ∈ xs, x.f ∈ zs
/-- all that stood stands, but at st and L -/
def B2 (st L : Addr) (H H' : Hp) : Prop := ∀ b o, b ≠ st → b ≠ L → H b = some o → H' b = some o
theorem B2.same {st L : Addr} {H H' : Hp} (s : Same H H') : B2 st L H H' := fun b o _ _ h => s b o h
theorem B2.trans {st L : Addr} {H H1 H2 : Hp} (a : B2 st L H H1) (b : B2 st L H1 H2) : B2 st L H H2 := fun c o n m h => b c o n m (a c o n m h)
theorem B2.bt {st L : Addr} {H H' : Hp} (s : Bt st H H') : B2 st L H H' := fun b o n _ h => s b o n h
theorem B2.L {st L : Addr} {H : Hp} {o : HO} : B2 st L H (upd H L o) := fun b u _ n h => by rw [upd_ne n]; exact h
theorem B2.st {st L : Addr} {H : Hp} {o : HO} : B2 st L H (upd H st o) := fun b u n _ h => by rw [upd_ne n]; exact h
theorem B2.rows {st L : Addr} {H H' : Hp} (s : B2 st L H H') {ls lL : List V} (hs : H st = some (.lst ls)) (hL : H L = some (.lst lL)) {rs : List Addr} {xs : List Rw} (h : RowsL H rs xs) : RowsL H' rs xs :=
  h.keep fun c z hc => s _ _ (ne_of hc hs (by intro e; cases e)) (ne_of hc hL (by intro e; cases e)) hc
theorem B2.lg {st L : Addr} {H H' : Hp} (s : B2 st L H H') {ls lL : List V} (hs : H st = some (.lst ls)) (hL : H L = some (.lst lL)) {zs : List Str} {p : Addr} {xs : List Rw} (n1 : p ≠ st) (n2 : p ≠ L) (h : LG H zs p xs) : LG H' zs p xs := by
  obtain ⟨rs, h1, h2, h3⟩ := h
  exact ⟨rs, s _ _ n1 n2 h1, s.rows hs hL h2, h3⟩
theorem LG.same {H H' : Hp} {zs : List Str} {p : Addr} {xs : List Rw} (h : LG H zs p xs) (s : Same H H') : LG H' zs p xs := by
  obtain ⟨rs, h1, h2, h3⟩ := h
  exact ⟨rs, s _ _ h1, h2.same s, h3⟩
theorem LG.bt {st : Addr} {H H' : Hp} {zs : List Str} {p : Addr} {xs : List Rw} (h : LG H zs p xs) (s : Bt st H H') {ls : List V} (hs : H st = some (.lst ls)) (n : p ≠ st) : LG H' zs p xs := by
  obtain ⟨rs, h1, h2, h3⟩ := h
  exact ⟨rs, s _ _ n h1, h2.keep fun c z hc => s _ _ (ne_of hc hs (by intro e; cases e)) hc, h3⟩
theorem cutV_mid (xs : List V) {a b : Nat} (h : a ≤ b) : cutV xs (some (a : Int)) (some (b : Int)) = (xs.drop a).take (b - a) := by
  unfold cutV
  rw [HT.sIx_nat, HT.sIx_nat]
  by_cases ha : a ≤ xs.length
  · rw [Nat.min_eq_left ha, List.take_eq_take_iff, List.length_drop]
    omega
  · rw [Nat.min_eq_right (by omega : xs.length ≤ a), List.drop_of_length_le (Nat.le_refl _), List.drop_of_length_le (by omega), List.take_nil, List.take_nil]
/-- the lists of rows so far stand at LL -/
structure LI (st scr LL pn d : Addr) (zs : List Str) (c : Ct) (H : Hp) (ps : List Addr) : Prop where
  hLL : H LL = some (.lst (ps.map V.ref))
  hd : DrAt H st scr
  hpn : H pn = some (.lst (zs.map V.str))
  hc : H d = some (.dK c)
  inv : ∀ p ∈ ps, p ≠ st ∧ p ≠ LL ∧ ∃ xs, LG H zs p xs
theorem LI.bt {st scr LL pn d : Addr} {zs : List Str} {c : Ct} {H H' : Hp} {ps : List Addr} (h : LI st scr LL pn d zs c H ps) (LLs : LL ≠ st) (pns : pn ≠ st) (ds : d ≠ st) (b : Bt st H H') (hd : DrAt H' st scr) : LI st scr LL pn d zs c H' ps := by
  obtain ⟨ls, hs⟩ := h.hd.lst
  refine ⟨b _ _ LLs h.hLL, hd, b _ _ pns h.hpn, b _ _ ds h.hc, fun p hp => ?_⟩
  obtain ⟨n1, n2, xs, hx⟩ := h.inv p hp
  exact ⟨n1, n2, xs, hx.bt b hs n1⟩
theorem LI.push {st scr LL pn d D : Addr} {zs : List Str} {c : Ct} {H : Hp} {ps : List Addr} {xs : List Rw} (h : LI st scr LL pn d zs c H ps) (LLs : LL ≠ st) (LLc : LL ≠ scr) (pnL : pn ≠ LL) (dL : d ≠ LL) (Ds : D ≠ st) (DL : D ≠ LL) (hD : LG H zs D xs) : LI st scr LL pn d zs c (L2.upd H LL (.lst (ps.map V.ref ++ [.ref D]))) (ps ++ [D]) := by
  obtain ⟨ls, hs⟩ := h.hd.lst
  refine ⟨by rw [upd_same, List.map_append]; rfl, h.hd.at LLs LLc, by rw [upd_ne pnL]; exact h.hpn, by rw [upd_ne dL]; exact h.hc, fun p hp => ?_⟩
  rcases List.mem_append.mp hp with hp | hp
  · obtain ⟨n1, n2, xs, hx⟩ := h.inv p hp
    exact ⟨n1, n2, xs, B2.L.lg hs h.hLL n1 n2 hx⟩
  · rw [List.mem_singleton.mp hp]
    exact ⟨Ds, DL, xs, B2.L.lg hs h.hLL Ds DL hD⟩
theorem LG.one {H : Hp} {zs : List Str} {D r : Addr} {x : Rw} (hD : H D = some (.lst [.ref r])) (hr : RowAt H r x) (hn : isName x.f = true ∧ x.f.length ≤ 12) (hb : Bd x.n) (hm : x.f ∈ zs) : LG H zs D [x] :=
  ⟨[r], hD, ⟨hr, trivial⟩, ⟨fun y hy => by rw [List.mem_singleton.mp hy]; exact ⟨hn.1, hn.2, hb⟩, List.pairwise_singleton _ _, by show 1 ≤ 3; decide⟩, fun y hy => by rw [List.mem_singleton.mp hy]; exact hm⟩
theorem ChAt.keep {K : PySem.W.Frag} {H H' : Hp} {a : Addr} {xs : List Rw} (h : ChAt K H a xs) (s : ∀ b o, (∀ l, o ≠ HO.lst l) → H b = some o → H' b = some o) : ChAt K H' a xs := by
  obtain ⟨C, dx, t, rs, h1, h2, h3, h4⟩ := h
  exact ⟨C, dx, t, rs, h1, s _ _ (by intro l e; cases e) h2, s _ _ (by intro l e; cases e) h3, h4.keep fun c z hc => s _ _ (by intro l e; cases e) hc⟩
def spLaw (K : PySem.W.Frag) : Sp := fun vs H Q _ => ∃ (a : Addr) (ns : List Int), vs = [.ref a] ∧ SqL K H a (ns.map V.int) ∧ ns.length ≤ 63 ∧ ∀ H', Q (.bl true) H'
abbrev sp_law := spLaw
theorem len_law {vs : List V} {H : Hp} {Q : VK} {E : XK} (h : sp_law K vs H Q E) : vs.length = 1 := by
  obtain ⟨_, _, rfl, _⟩ := h
  rfl
end
section
variable {P : Program} {w : World} {K : PySem.W.Frag} {mg : Str → Option Value} {base : Heap}
variable {t_BOUND t_LETTERS t_LONGEST_NAME : Tok} {a_RESERVED a_BadName a_BadNumber a_Change a_ElseputError a_TooLarge a_UnknownField : Addr}
theorem ok_law {f : Addr} {fd : FuncData} {f__law_state : Addr} {fd__law_state : FuncData} {f__law_names : Addr} {fd__law_names : FuncData} {f__law_pick : Addr} {fd__law_pick : FuncData} {f__law_number : Addr} {fd__law_number : FuncData} {f__law_some_rows : Addr} {fd__law_some_rows : FuncData} {f__law_change : Addr} {fd__law_change : FuncData} {f__law_constant : Addr} {fd__law_constant : FuncData} {f__law_joins : Addr} {fd__law_joins : FuncData} {f__law_same : Addr} {fd__law_same : FuncData} {f_Change___len__ : Addr} {fd_Change___len__ : FuncData} (F : Fun K "law" "law" s_law f fd) (T : Gs K mg t_BOUND t_LETTERS t_LONGEST_NAME a_RESERVED a_BadName a_BadNumber a_Change a_ElseputError a_TooLarge a_UnknownField) (c__law_state : Cal P w K mg base CX0 1 "_law_state" f__law_state fd__law_state ["_law_script"] (sp__law_state K)) (c__law_names : Cal P w K mg base CX0 2 "_law_names" f__law_names fd__law_names ["_law_state_here", "_law_many"] (sp__law_names K)) (c__law_pick : Cal P w K mg base CX0 2 "_law_pick" f__law_pick fd__law_pick ["_law_state_here", "_law_row"] (sp__law_pick K)) (c__law_number : Cal P w K mg base CX0 2 "_law_number" f__law_number fd__law_number ["_law_state_here"] (sp__law_number K)) (c__law_some_rows : Cal P w K mg base CX0 4 "_law_some_rows" f__law_some_rows fd__law_some_rows ["_law_state_here", "_law_fields"] (sp__law_some_rows K)) (c__law_change : Cal P w K mg base CX0 5 "_law_change" f__law_change fd__law_change ["_law_rows"] (sp__law_change K)) (c__law_constant : Cal P w K mg base CX0 3 "_law_constant" f__law_constant fd__law_constant ["_law_state_here"] (sp__law_constant K)) (c__law_joins : Cal P w K mg base CX0 9 "_law_joins" f__law_joins fd__law_joins ["_law_one", "_law_other", "_law_first", "_law_second", "_law_content"] (sp__law_joins K)) (c__law_same : Cal P w K mg base CX0 6 "_law_same" f__law_same fd__law_same ["_law_actual", "_law_due"] (sp__law_same K)) (c_Change___len__ : CalL P w K mg base CX0 1 a_Change f_Change___len__ fd_Change___len__ ["self"] (sp_Change___len__ K)) : FnOk P w K mg base CX0 11 f fd ["_law_script"] (sp_law K) := by
  refine F.ok sc_law (fun vs H Q E h => len_law h) (fun cdv A outer s H vs Q E hr h => ?_)
  obtain ⟨a, ns, rfl, hS, hl, q⟩ := h
  refine ⟨_, (pss_cons (ps_set (i := 1) sc_law.nd rfl (.inr rfl) (pe_call c__law_state.G (hr.mono (by first | decide | omega)) rfl c__law_state.m c__law_state.kp c__law_state.b .nil pass0 (pa_cons (v_ 0) pa_nil))) (pss_cons (ps_set (i := 2) sc_law.nd rfl (.inl rfl) (pe_call c__law_names.G (hr.mono (by first | decide | omega)) rfl c__law_names.m c__law_names.kp c__law_names.b .nil pass0 (pa_cons (v_ 1) (pa_cons pe_int pa_nil)))) (pss_cons (ps_set (i := 3) sc_law.nd rfl (.inl rfl) pe_dnewK) (pss_cons (ps_for PassesOwn.never rfl (pi_list (v_ 2)) (pg_name (i := 4) sc_law.nd rfl (.inl rfl)) (pss_one (ps_asg (pe_call c__law_number.G (hr.mono (by first | decide | omega)) rfl c__law_number.m c__law_number.kp c__law_number.b .nil pass0 (pa_cons (v_ 1) pa_nil)) (pg_sub (v_ 3) (v_ 4) (set_dict (hu_of hr)))))) (pss_cons (ps_set (i := 5) sc_law.nd rfl (.inl rfl) (pe_lst (pa_cons (pe_call c__law_some_rows.G (hr.mono (by first | decide | omega)) rfl c__law_some_rows.m c__law_some_rows.kp c__law_some_rows.b .nil pass0 (pa_cons (v_ 1) (pa_cons (pe_slice (slK K) (v_ 2) po_none (po_some pe_int)) pa_nil))) (pa_cons (pe_call c__law_some_rows.G (hr.mono (by first | decide | omega)) rfl c__law_some_rows.m c__law_some_rows.kp c__law_some_rows.b .nil pass0 (pa_cons (v_ 1) (pa_cons (pe_slice (slK K) (v_ 2) po_none (po_some pe_int)) pa_nil))) (pa_cons (pe_lst pa_nil) pa_nil))))) (pss_cons (ps_expr (pe_bm PySem.F.plainAttrs_list PySem.F.slot_list_append PySem.F.type_list_append mt_append (v_ 5) (pa_cons (pe_lc (own := [("_law_field", 4)]) (g := gName 4) (by rfl) sc_law.nd (pi_list (pe_slice (slK K) (v_ 2) (po_some pe_int) (po_some pe_int))) (blkOk_by (N := ["_law_script", "_law_state_here", "_law_names_here", "_law_content", "_law_field", "_law_lists", "_law_word", "_law_made", "_law_i", "_law_j", "_law_rows"]) (sc := defScope s_law) (by decide +kernel)) (fun _ _ _ _ _ => pg_name (i := 4) sc_law.nd rfl (Or.inl rfl)) (fun _ _ _ _ _ => pts_nil) (fun _ _ _ _ _ => (pe_tup (pa_cons (v_ 4) (pa_cons (pe_call c__law_pick.G (hr.mono (by first | decide | omega)) rfl c__law_pick.m c__law_pick.kp c__law_pick.b .nil pass0 (pa_cons (v_ 1) (pa_cons (pe_lst (pa_cons pe_str (pa_cons pe_str pa_nil))) pa_nil))) (pa_cons (pe_call c__law_constant.G (hr.mono (by first | decide | omega)) rfl c__law_constant.m c__law_constant.kp c__law_constant.b .nil pass0 (pa_cons (v_ 1) pa_nil)) pa_nil)))))) pa_nil))) (pss_cons (ps_expr (pe_bm PySem.F.plainAttrs_list PySem.F.slot_list_append PySem.F.type_list_append mt_append (v_ 5) (pa_cons (pe_lst (pa_cons (pe_tup (pa_cons (e_x K (v_ 2) pe_int) (pa_cons (pe_call c__law_pick.G (hr.mono (by first | decide | omega)) rfl c__law_pick.m c__law_pick.kp c__law_pick.b .nil pass0 (pa_cons (v_ 1) (pa_cons (pe_lst (pa_cons pe_str (pa_cons pe_str pa_nil))) pa_nil))) (pa_cons (pe_call c__law_constant.G (hr.mono (by first | decide | omega)) rfl c__law_constant.m c__law_constant.kp c__law_constant.b .nil pass0 (pa_cons (v_ 1) pa_nil)) pa_nil)))) pa_nil)) pa_nil))) (pss_cons (ps_set (i := 4) sc_law.nd rfl (.inl rfl) (pe_call c__law_pick.G (hr.mono (by first | decide | omega)) rfl c__law_pick.m c__law_pick.kp c__law_pick.b .nil pass0 (pa_cons (v_ 1) (pa_cons (v_ 2) pa_nil)))) (pss_cons (ps_for PassesOwn.never rfl (pi_list (pe_lst (pa_cons pe_str (pa_cons pe_str pa_nil)))) (pg_name (i := 6) sc_law.nd rfl (.inl rfl)) (pss_one (ps_expr (pe_bm PySem.F.plainAttrs_list PySem.F.slot_list_append PySem.F.type_list_append mt_append (v_ 5) (pa_cons (pe_lst (pa_cons (pe_tup (pa_cons (v_ 4) (pa_cons (v_ 6) (pa_cons (pe_call c__law_constant.G (hr.mono (by first | decide | omega)) rfl c__law_constant.m c__law_constant.kp c__law_constant.b .nil pass0 (pa_cons (v_ 1) pa_nil)) pa_nil)))) pa_nil)) pa_nil))))) (pss_cons (ps_setLc (i := 7) (own := [("_law_rows", 10)]) (g := gName 10) (by rfl) sc_law.nd rfl rfl (sw_true rfl rfl rfl (by decide +kernel)) (pi_list (v_ 5)) (blkOk_by (N := ["_law_script", "_law_state_here", "_law_names_here", "_law_content", "_law_field", "_law_lists", "_law_word", "_law_made", "_law_i", "_law_j", "_law_rows"]) (sc := defScope s_law) (by decide +kernel)) (fun _ _ _ _ _ => pg_name (i := 10) sc_law.nd rfl (Or.inl rfl)) (fun _ _ _ _ _ => pts_nil) (fun _ _ _ _ _ => (pe_call c__law_change.G (hr.mono (by first | decide | omega)) rfl c__law_change.m c__law_change.kp c__law_change.b .nil pass0 (pa_cons (v_ 10) pa_nil)))) (pss_cons (ps_for PassesOwn.never rfl (pi_range1 rfl T.z_range (pa_cons (pe_callB (lenK K) (by rfl) T.z_len PySem.boot_len (pa_cons (v_ 5) pa_nil)) pa_nil)) (pg_name (i := 8) sc_law.nd rfl (.inl rfl)) (pss_one (ps_for PassesOwn.never rfl (pi_range1 rfl T.z_range (pa_cons (pe_callB (lenK K) (by rfl) T.z_len PySem.boot_len (pa_cons (v_ 5) pa_nil)) pa_nil)) (pg_name (i := 9) sc_law.nd rfl (.inl rfl)) (pss_one (ps_if (pt_not (pt_t K (pe_call c__law_joins.G (hr.mono (by first | decide | omega)) rfl c__law_joins.m c__law_joins.kp c__law_joins.b .nil pass0 (pa_cons (e_x K (v_ 7) (v_ 8)) (pa_cons (e_x K (v_ 7) (v_ 9)) (pa_cons (e_x K (v_ 5) (v_ 8)) (pa_cons (e_x K (v_ 5) (v_ 9)) (pa_cons (v_ 3) pa_nil)))))))) (pss_one (ps_ret pe_bl)) pss_nil))))) (pss_cons (ps_for PassesOwn.never rfl (pi_range1 rfl T.z_range (pa_cons (pe_callB (lenK K) (by rfl) T.z_len PySem.boot_len (pa_cons (v_ 5) pa_nil)) pa_nil)) (pg_name (i := 8) sc_law.nd rfl (.inl rfl)) (pss_one (ps_if (PW.pt (pw_or (pt_not (pt_t K (pe_call c__law_same.G (hr.mono (by first | decide | omega)) rfl c__law_same.m c__law_same.kp c__law_same.b .nil pass0 (pa_cons (e_f K (e_x K (v_ 7) (v_ 8))) (pa_cons (pe_callTy (tupleK K) (by rfl) T.z_tuple (by decide +kernel) (pa_cons (e_x K (v_ 5) (v_ 8)) pa_nil)) pa_nil))))) (pw_or1 (pt_not (pt_t K (pe_call c__law_same.G (hr.mono (by first | decide | omega)) rfl c__law_same.m c__law_same.kp c__law_same.b .nil pass0 (pa_cons (pe_callB (call_lenO c_Change___len__.le c_Change___len__.G (hr.mono (by first | decide | omega)) c_Change___len__.b) (by rfl) T.z_len PySem.boot_len (pa_cons (e_x K (v_ 7) (v_ 8)) pa_nil)) (pa_cons (pe_callB (lenK K) (by rfl) T.z_len PySem.boot_len (pa_cons (e_x K (v_ 5) (v_ 8)) pa_nil)) pa_nil)))))))) (pss_one (ps_ret pe_bl)) pss_nil))) (pss_one (ps_ret pe_bl)))))))))))))), ?_⟩
  refine ⟨a, ns, rfl, hS, hl, fun H1 st scr sm fs fc hd => ?_⟩
  refine ⟨st, scr, 5, rfl, hd, by decide, fun H2 pn zs b2 hd2 npn hpn hzl hzn hnd => ?_⟩
  have pns : pn ≠ st := hd.ne_new npn
  clear b2 hd sm
  refine fun d nd => ?_
  have dst : d ≠ st := hd2.ne_new nd
  have dsc : d ≠ scr := hd2.ne_scr nd
  have dpn : d ≠ pn := (ne_of_none hpn nd).symm
  refine ⟨pn, rfl, ⟨_, SqL.of (same_new nd _ _ hpn)⟩, ?_⟩
  refine for_list (K := K) (a := pn) (xs := zs.map V.str) (fun i σ' H' => ∃ (y : Option V) (c : Ct), σ' = [some (.ref a), some (.ref st), some (.ref pn), some (.ref d), y, none, none, none, none, none, none] ∧ DrAt H' st scr ∧ H' pn = some (.lst (zs.map V.str)) ∧ H' d = some (.dK c) ∧ Ints c ∧ c.length ≤ i ∧ ∀ j z, j < i → zs[j]? = some z → HasF c z) ?_ (fun i σ' H' _ ⟨_, _, _, _, h, _⟩ => SqL.of h) ?_ ?_
  · exact ⟨_, [], rfl, hd2.new (same_new nd), same_new nd _ _ hpn, upd_same, (fun k v h => nomatch h), Nat.le_refl _, fun j z h => absurd h (by omega)⟩
  · rintro i v σ' H' hi ⟨y, c, rfl, hdd, hp, hc, hI, hcl, hF⟩
    have hil := (List.getElem?_eq_some_iff.mp hi).1
    rw [List.length_map] at hil
    rw [List.getElem?_map] at hi
    obtain ⟨z, hz, rfl⟩ := Option.map_eq_some_iff.mp hi
    refine ⟨st, scr, rfl, hdd, fun l m hm hd' => ?_⟩
    have hc' : upd H' st (.lst l) d = some (.dK c) := by rw [upd_ne dst]; exact hc
    refine ⟨d, _, rfl, DPut.k (k := kS z) hc' (line_lt (by omega)), ?_⟩
    refine ⟨_, _, rfl, hd'.at dst dsc, by rw [upd_ne dpn.symm, upd_ne pns]; exact hp, upd_same, hI.put _ _, Nat.le_trans (length_putK _ _ _) (by omega), fun j z' hj hz' => ?_⟩
    unfold HasF
    rw [valV_put]
    split
    · rfl
    · rename_i hne
      by_cases h : j < i
      · exact hF j z' h hz'
      · rw [show j = i by omega, hz] at hz'
        cases hz'
        exact absurd rfl hne
  rintro σ' H3 ⟨y, c, rfl, hd3, hpn3, hc3, hI, hcl, hF⟩
  rw [List.length_map] at hcl hF
  have hHF : ∀ z ∈ zs, HasF c z := fun z hz => by
    obtain ⟨j, hj, e⟩ := List.getElem_of_mem hz
    exact hF j z hj (by rw [List.getElem?_eq_getElem hj, e])
  clear hF
  have hz4 : ∀ z ∈ zs.take 4, isName z = true ∧ z.length ≤ 12 := fun z hz => hzn z (List.mem_of_mem_take hz)
  have hnd4 : (zs.take 4).Nodup := List.Pairwise.sublist (List.take_sublist _ _) hnd
  have hl4 : (zs.take 4).length ≤ 20 := by rw [List.length_take]; omega
  -- the first list
  refine ⟨4, rfl, .inl ⟨_, SqL.of hpn3, fun q1 n1 => ?_⟩⟩
  rw [show cutV (zs.map V.str) none (some 4) = (zs.take 4).map V.str by rw [cutV_take _ (by decide), ← List.map_take]; rfl]
  have s1 := same_new (o := .lst ((zs.take 4).map V.str)) n1
  refine ⟨st, scr, q1, zs.take 4, rfl, hd3.new s1, upd_same, hd3.ne_new n1, hl4, hz4, hnd4, fun H4 L1 rs1 xs1 b4 hd4 nL1 hL1 hrs1 g1 m1 => ?_⟩
  have L1s : L1 ≠ st := (hd3.new s1).ne_new nL1
  have lg1 : LG H4 zs L1 xs1 := ⟨rs1, hL1, hrs1, g1, fun x hx => List.mem_of_mem_take (m1 x hx)⟩
  have hpn4 := b4 _ _ pns (s1 _ _ hpn3)
  have hc4 := b4 _ _ dst (s1 _ _ hc3)
  refine ⟨4, rfl, .inl ⟨_, SqL.of hpn4, fun q2 n2 => ?_⟩⟩
  rw [show cutV (zs.map V.str) none (some 4) = (zs.take 4).map V.str by rw [cutV_take _ (by decide), ← List.map_take]; rfl]
  have s2 := same_new (o := .lst ((zs.take 4).map V.str)) n2
  refine ⟨st, scr, q2, zs.take 4, rfl, hd4.new s2, upd_same, hd4.ne_new n2, hl4, hz4, hnd4, fun H5 L2 rs2 xs2 b5 hd5 nL2 hL2 hrs2 g2 m2 => ?_⟩
  have L2s : L2 ≠ st := (hd4.new s2).ne_new nL2
  have lg2 : LG H5 zs L2 xs2 := ⟨rs2, hL2, hrs2, g2, fun x hx => List.mem_of_mem_take (m2 x hx)⟩
  obtain ⟨ls4, hs4⟩ := (hd4.new s2).lst
  have lg1 : LG H5 zs L1 xs1 := (lg1.same s2).bt b5 hs4 L1s
  have hpn5 := b5 _ _ pns (s2 _ _ hpn4)
  have hc5 := b5 _ _ dst (s2 _ _ hc4)
  refine ⟨Nat.zero_le _, fun L3 n3 => ?_⟩
  have s3 := same_new (o := .lst []) n3
  have lg3 : LG (upd H5 L3 (.lst [])) zs L3 [] := ⟨[], upd_same, trivial, ⟨(fun _ h => nomatch h), List.Pairwise.nil, by decide⟩, (fun _ h => nomatch h)⟩
  have L3s : L3 ≠ st := hd5.ne_new n3
  refine ⟨(by show 3 ≤ sizeLine; decide), fun LL nLL => ?_⟩
  have s4 := same_new (o := .lst [.ref L1, .ref L2, .ref L3]) nLL
  have LLs : LL ≠ st := hd5.ne_new (free_new nLL)
  have LLc : LL ≠ scr := hd5.ne_scr (free_new nLL)
  have hLL : (upd (upd H5 L3 (.lst [])) LL (.lst [.ref L1, .ref L2, .ref L3])) LL = some (.lst ([L1, L2, L3].map V.ref)) := upd_same
  have hd6 := hd5.new (s3.trans s4)
  have hpn6 := s4 _ _ (s3 _ _ hpn5)
  have hc6 := s4 _ _ (s3 _ _ hc5)
  have inv : ∀ p ∈ [L1, L2, L3], p ≠ st ∧ p ≠ LL ∧ ∃ xs, LG (upd (upd H5 L3 (.lst [])) LL (.lst [.ref L1, .ref L2, .ref L3])) zs p xs := by
    intro p hp
    simp only [List.mem_cons, List.not_mem_nil, or_false] at hp
    rcases hp with rfl | rfl | rfl
    · have h1 := (lg1.same (s3.trans s4))
      obtain ⟨rs, e, _⟩ := lg1.same s3
      exact ⟨L1s, ne_of_none e nLL, _, h1⟩
    · have h1 := (lg2.same (s3.trans s4))
      obtain ⟨rs, e, _⟩ := lg2.same s3
      exact ⟨L2s, ne_of_none e nLL, _, h1⟩
    · obtain ⟨rs, e, _⟩ := id lg3
      exact ⟨L3s, ne_of_none e nLL, _, lg3.same s4⟩
  have dLL : d ≠ LL := ne_of_none (s3 _ _ hc5) nLL
  have pnLL : pn ≠ LL := ne_of_none (s3 _ _ hpn5) nLL
  clear lg1 lg2 lg3
  generalize upd (upd H5 L3 (.lst [])) LL (.lst [.ref L1, .ref L2, .ref L3]) = H6 at hLL hd6 hpn6 hc6 inv ⊢
  have I6 : LI st scr LL pn d zs c H6 [L1, L2, L3] := ⟨hLL, hd6, hpn6, hc6, inv⟩
  clear hLL hd6 hpn6 hc6 inv
  -- three rows more
  refine ⟨.inl ⟨rfl, _, SqL.of I6.hLL⟩, 1, rfl, 4, rfl, .inl ⟨_, SqL.of I6.hpn, fun q3 n3 => ?_⟩⟩
  rw [show cutV (zs.map V.str) (some 1) (some 4) = ((zs.drop 1).take 3).map V.str by rw [List.map_take, List.map_drop]; exact cutV_mid _ (a := 1) (b := 4) (by decide)]
  have htn : ((zs.drop 1).take 3).Nodup := List.Pairwise.sublist ((List.take_sublist _ _).trans (List.drop_sublist _ _)) hnd
  have htm : ∀ z ∈ (zs.drop 1).take 3, z ∈ zs := fun z hz => List.mem_of_mem_drop (List.mem_of_mem_take hz)
  have htl : ((zs.drop 1).take 3).length ≤ 3 := by rw [List.length_take]; omega
  generalize (zs.drop 1).take 3 = ts at htn htm htl
  have I7 := I6.bt LLs pns dst (Bt.same (same_new (o := .lst (ts.map V.str)) n3)) (I6.hd.new (same_new n3))
  have hq3 := upd_same (H := H6) (a := q3) (o := .lst (ts.map V.str))
  have q3s : q3 ≠ st := I6.hd.ne_new n3
  generalize upd H6 q3 (.lst (ts.map V.str)) = H7 at I7 hq3 ⊢
  clear I6
  refine ⟨q3, rfl, ⟨_, SqL.of hq3⟩, fun D nD => ?_⟩
  have Ds : D ≠ st := I7.hd.ne_new nD
  have Dc : D ≠ scr := I7.hd.ne_scr nD
  have DL : D ≠ LL := (ne_of_none I7.hLL nD).symm
  refine lc_it walk_list (fun i H' => Bt st H7 H' ∧ DrAt H' st scr ∧ ∃ (rs : List Addr) (xs : List Rw), H' D = some (.lst (rs.map V.ref)) ∧ RowsL H' rs xs ∧ xs.map (·.f) = ts.take i ∧ ∀ x ∈ xs, Bd x.n) ⟨Bt.same (same_new nD), I7.hd.new (same_new nD), [], [], upd_same, trivial, rfl, (fun _ h => nomatch h)⟩ (fun _ _ _ h => SqL.of (h.1 _ _ q3s hq3)) ?_ ?_
  · rintro i v H8' H8 hi ⟨bt, hdd, rs, xs, hD, hrs, hfs, hbd⟩ ⟨rfl, hv⟩
    rw [List.length_map] at hi
    obtain ⟨z, ez⟩ : ∃ z, ts[i]? = some z := ⟨_, List.getElem?_eq_getElem hi⟩
    have hv : (ts.map V.str)[i]? = some v := by
      first | exact hv | exact hv _ (SqL.of (bt _ _ q3s hq3))
    rw [List.getElem?_map, ez] at hv
    cases hv
    refine ⟨rfl, ?_⟩
    refine ⟨(by show 2 ≤ sizeLine; decide), fun t1 n1 => ?_⟩
    have hd5 := hdd.new (same_new (o := .lst [.str "add", .str "set"]) n1)
    refine ⟨st, scr, _, rfl, hd5, .inr ⟨t1, _, rfl, upd_same, hdd.ne_new n1, by decide, by decide, fun dv l hdv hd6 => ?_⟩⟩
    obtain ⟨ad, rfl⟩ : ∃ ad : Bool, dv = .str (deed ad) := by
      simp only [List.mem_cons, List.not_mem_nil, or_false] at hdv
      rcases hdv with rfl | rfl
      · exact ⟨true, rfl⟩
      · exact ⟨false, rfl⟩
    refine ⟨st, scr, rfl, hd6, fun l2 m hm hd7 => ?_⟩
    refine ⟨(by show 3 ≤ sizeLine; decide), fun t2 n2 => ?_⟩
    have keep : Bt st H8 (upd (upd (upd (upd H8 t1 (.lst [.str "add", .str "set"])) st (.lst l)) st (.lst l2)) t2 (.tup [.str z, .str (deed ad), .int m])) := fun b o nb hb =>
      same_new n2 _ _ (by rw [upd_ne nb, upd_ne nb]; exact same_new n1 _ _ hb)
    have ht2 := upd_same (H := upd (upd (upd H8 t1 (.lst [.str "add", .str "set"])) st (.lst l)) st (.lst l2)) (a := t2) (o := .tup [.str z, .str (deed ad), .int m])
    have hd8 := hd7.new (same_new (o := .tup [.str z, .str (deed ad), .int m]) n2)
    generalize upd (upd (upd (upd H8 t1 (.lst [.str "add", .str "set"])) st (.lst l)) st (.lst l2)) t2 (.tup [.str z, .str (deed ad), .int m]) = H9 at keep ht2 hd8 ⊢
    have hD9 := keep _ _ Ds hD
    have hxl : xs.length ≤ 3 := by
      have := congrArg List.length hfs
      rw [List.length_map, List.length_take] at this
      omega
    have hrl : rs.length ≤ 3 := by rw [hrs.len]; exact hxl
    refine ⟨_, hD9, line_lt (by rw [List.length_map]; omega), ?_⟩
    have kt : ∀ c z, H8 c = some (.tup z) → (upd H9 D (.lst (rs.map V.ref ++ [.ref t2]))) c = some (.tup z) := fun c z hc => by
      rw [upd_ne (ne_of hc hD (by intro e; cases e))]
      obtain ⟨l, hl⟩ := hdd.lst
      exact keep _ _ (ne_of hc hl (by intro e; cases e)) hc
    have t2D : t2 ≠ D := by
      intro e
      rw [e, hD9] at ht2
      cases ht2
    refine ⟨?_, hd8.at Ds Dc, rs ++ [t2], xs ++ [⟨z, ad, m⟩], by rw [upd_same, List.map_append]; rfl, (hrs.keep kt).app ⟨by show _ = _; rw [upd_ne t2D]; exact ht2, trivial⟩, ?_, ?_⟩
    · intro b o nb hb
      rw [upd_ne (ne_of_none hb nD)]
      exact keep _ _ nb (bt _ _ nb hb)
    · rw [List.map_append, hfs, take_snoc ez]
      rfl
    · intro x hx
      rcases List.mem_append.mp hx with h | h
      · exact hbd x h
      · rw [List.mem_singleton.mp h]
        exact hm
  rintro H8 ⟨bt, hdd, rs, xs, hD, hrs, hfs, hbd⟩
  rw [List.length_map, List.take_length] at hfs
  have I8 := I7.bt LLs pns dst bt hdd
  have lgD : LG H8 zs D xs := ⟨rs, hD, hrs, ⟨fun x hx => by
    have : x.f ∈ ts := by rw [← hfs]; exact List.mem_map_of_mem hx
    exact ⟨(hzn _ (htm _ this)).1, (hzn _ (htm _ this)).2, hbd x hx⟩, by rw [hfs]; exact htn, by
    have := congrArg List.length hfs
    rw [List.length_map] at this
    omega⟩, fun x hx => by
    have : x.f ∈ ts := by rw [← hfs]; exact List.mem_map_of_mem hx
    exact htm _ this⟩
  refine ⟨LL, _, _, rfl, rfl, I8.hLL, line_lt (by rw [List.length_map]; show 3 < 100000; decide), ?_⟩
  have I9 := I8.push LLs LLc pnLL dLL Ds DL lgD
  generalize upd H8 LL (.lst ([L1, L2, L3].map V.ref ++ [.ref D])) = H9 at I9 ⊢
  have hps9 : ([L1, L2, L3] ++ [D]).length = 4 := rfl
  generalize [L1, L2, L3] ++ [D] = ps9 at I9 hps9
  -- one row of the last name
  obtain ⟨z4, ez4⟩ : ∃ z, zs[4]? = some z := ⟨_, List.getElem?_eq_getElem (by omega)⟩
  have hz4m := List.mem_of_getElem? ez4
  refine ⟨.inl ⟨rfl, _, SqL.of I9.hLL⟩, _, .inl (SqL.of I9.hpn), .str z4, atI_nat (j := 4) (by rw [List.getElem?_map, ez4]; rfl), (by show 2 ≤ sizeLine; decide), fun t1 n1 => ?_⟩
  refine ⟨st, scr, _, rfl, I9.hd.new (same_new n1), .inr ⟨t1, _, rfl, upd_same, I9.hd.ne_new n1, by decide, by decide, fun dv l hdv hd10 => ?_⟩⟩
  obtain ⟨ad, rfl⟩ : ∃ ad : Bool, dv = .str (deed ad) := by
    simp only [List.mem_cons, List.not_mem_nil, or_false] at hdv
    rcases hdv with rfl | rfl
    · exact ⟨true, rfl⟩
    · exact ⟨false, rfl⟩
  have b10 : Bt st H9 (upd (upd H9 t1 (.lst [.str "add", .str "set"])) st (.lst l)) := (Bt.same (same_new n1)).trans Bt.st
  have I10 := I9.bt LLs pns dst b10 hd10
  generalize upd (upd H9 t1 (.lst [.str "add", .str "set"])) st (.lst l) = H10 at I10 ⊢
  clear I9 b10 hd10
  refine ⟨st, scr, rfl, I10.hd, fun l2 m hm hd11 => ?_⟩
  have I11 := I10.bt LLs pns dst Bt.st hd11
  generalize upd H10 st (.lst l2) = H11 at I11 ⊢
  clear I10 hd11
  refine ⟨(by show 3 ≤ sizeLine; decide), fun t2 n2 => ?_⟩
  have I12 := I11.bt LLs pns dst (Bt.same (same_new (o := .tup [.str z4, .str (deed ad), .int m]) n2)) (I11.hd.new (same_new n2))
  have ht2 := upd_same (H := H11) (a := t2) (o := .tup [.str z4, .str (deed ad), .int m])
  generalize upd H11 t2 (.tup [.str z4, .str (deed ad), .int m]) = H12 at I12 ht2 ⊢
  refine ⟨(by show 1 ≤ sizeLine; decide), fun D2 nD2 => ?_⟩
  have s13 := same_new (o := .lst [.ref t2]) nD2
  have I13 := I12.bt LLs pns dst (Bt.same s13) (I12.hd.new s13)
  have lg13 : LG (upd H12 D2 (.lst [.ref t2])) zs D2 [⟨z4, ad, m⟩] := LG.one upd_same (s13 _ _ ht2) (hzn _ hz4m) hm hz4m
  have D2s : D2 ≠ st := I12.hd.ne_new nD2
  have D2L : D2 ≠ LL := (ne_of_none I12.hLL nD2).symm
  generalize upd H12 D2 (.lst [.ref t2]) = H13 at I13 lg13 ⊢
  refine ⟨LL, _, _, rfl, rfl, I13.hLL, line_lt (by rw [List.length_map]; omega), ?_⟩
  have I14 := I13.push LLs LLc pnLL dLL D2s D2L lg13
  generalize upd H13 LL (.lst (ps9.map V.ref ++ [.ref D2])) = H14 at I14 ⊢
  have hps14 : (ps9 ++ [D2]).length = 5 := by rw [List.length_append, hps9]; rfl
  generalize ps9 ++ [D2] = ps14 at I14 hps14
  clear I13 lg13 I12 I11
  -- two rows of one field
  refine ⟨st, scr, _, rfl, I14.hd, .inr ⟨pn, _, rfl, I14.hpn, pns, by rw [List.length_map]; omega, by rw [List.length_map]; omega, fun fv l3 hfv hd15 => ?_⟩⟩
  obtain ⟨zf, hzf, rfl⟩ := List.mem_map.mp hfv
  have I15 := I14.bt LLs pns dst Bt.st hd15
  generalize upd H14 st (.lst l3) = H15 at I15 ⊢
  clear I14 hd15
  refine ⟨(by show 2 ≤ sizeLine; decide), fun W nW => ?_⟩
  have sW := same_new (o := .lst [.str "add", .str "set"]) nW
  have I16 := I15.bt LLs pns dst (Bt.same sW) (I15.hd.new sW)
  have hW : (upd H15 W (.lst [.str "add", .str "set"])) W = some (.lst ([true, false].map fun b => V.str (deed b))) := upd_same
  have Ws : W ≠ st := I15.hd.ne_new nW
  have WL : W ≠ LL := (ne_of_none I15.hLL nW).symm
  generalize upd H15 W (.lst [.str "add", .str "set"]) = H16 at I16 hW ⊢
  clear I15
  refine ⟨W, rfl, ⟨_, SqL.of hW⟩, ?_⟩
  refine for_list (K := K) (a := W) (xs := [true, false].map fun b => V.str (deed b)) (fun i σ' H' => ∃ (y : Option V) (ps : List Addr), σ' = [some (.ref a), some (.ref st), some (.ref pn), some (.ref d), some (.str zf), some (.ref LL), y, none, none, none, none] ∧ LI st scr LL pn d zs c H' ps ∧ ps.length = 5 + i ∧ H' W = some (.lst ([true, false].map fun b => V.str (deed b)))) ⟨_, ps14, rfl, I16, hps14, hW⟩ (fun i σ' H' _ ⟨_, _, _, _, _, h⟩ => SqL.of h) ?_ ?_
  · rintro i v σ' H' hi ⟨y, ps, rfl, Ii, hpl, hW'⟩
    have hi2 := (List.getElem?_eq_some_iff.mp hi).1
    rw [List.length_map] at hi2
    have hi2 : i < 2 := hi2
    rw [List.getElem?_map] at hi
    obtain ⟨ad2, had, rfl⟩ := Option.map_eq_some_iff.mp hi
    refine ⟨.inl ⟨rfl, _, SqL.of Ii.hLL⟩, ?_⟩
    refine ⟨st, scr, rfl, Ii.hd, fun l2 m2 hm2 hd17 => ?_⟩
    have I17 := Ii.bt LLs pns dst Bt.st hd17
    have hW17 : upd H' st (.lst l2) W = some (.lst ([true, false].map fun b => V.str (deed b))) := by rw [upd_ne Ws]; exact hW'
    generalize upd H' st (.lst l2) = H17 at I17 hW17 ⊢
    refine ⟨(by show 3 ≤ sizeLine; decide), fun t3 n3 => ?_⟩
    have I18 := I17.bt LLs pns dst (Bt.same (same_new (o := .tup [.str zf, .str (deed ad2), .int m2]) n3)) (I17.hd.new (same_new n3))
    have ht3 := upd_same (H := H17) (a := t3) (o := .tup [.str zf, .str (deed ad2), .int m2])
    have hW18 := same_new (o := .tup [.str zf, .str (deed ad2), .int m2]) n3 _ _ hW17
    generalize upd H17 t3 (.tup [.str zf, .str (deed ad2), .int m2]) = H18 at I18 ht3 hW18 ⊢
    refine ⟨(by show 1 ≤ sizeLine; decide), fun D3 nD3 => ?_⟩
    have s19 := same_new (o := .lst [.ref t3]) nD3
    have I19 := I18.bt LLs pns dst (Bt.same s19) (I18.hd.new s19)
    have lg19 : LG (upd H18 D3 (.lst [.ref t3])) zs D3 [⟨zf, ad2, m2⟩] := LG.one upd_same (s19 _ _ ht3) (hzn _ hzf) hm2 hzf
    refine ⟨LL, _, _, rfl, rfl, I19.hLL, line_lt (by rw [List.length_map]; omega), ?_⟩
    exact ⟨_, _, rfl, I19.push LLs LLc pnLL dLL (I18.hd.ne_new nD3) ((ne_of_none I18.hLL nD3).symm) lg19, by rw [List.length_append, hpl]; rfl, by rw [upd_ne WL]; exact s19 _ _ hW18⟩
  rintro σ' H17 ⟨y, ps, rfl, I17, hpl, _⟩
  have hpl : ps.length = 7 := hpl
  clear I16 hW nW sW
  refine ⟨LL, rfl, ⟨_, SqL.of I17.hLL⟩, fun M nM => ?_⟩
  refine lc_it walk_list (fun i H' => Same H17 H' ∧ ∃ ms : List Addr, H' M = some (.lst (ms.map V.ref)) ∧ ms.length = i ∧ ∀ (j : Nat) (m : Addr), ms[j]? = some m → ∃ p xs, ps[j]? = some p ∧ LG H17 zs p xs ∧ ChAt K H' m xs) ⟨same_new nM, [], upd_same, rfl, fun j m h => nomatch h⟩ (fun _ _ _ h => SqL.of (h.1 _ _ I17.hLL)) ?_ ?_
  · rintro i v H1' H1 hi ⟨s1, ms, hM, hml, hms⟩ ⟨rfl, hv⟩
    rw [List.length_map] at hi
    obtain ⟨p, ep⟩ : ∃ p, ps[i]? = some p := ⟨_, List.getElem?_eq_getElem hi⟩
    have hv : (ps.map V.ref)[i]? = some v := by
      first | exact hv | exact hv _ (SqL.of (s1 _ _ I17.hLL))
    rw [List.getElem?_map, ep] at hv
    cases hv
    obtain ⟨_, _, xs, hx⟩ := I17.inv p (List.mem_of_getElem? ep)
    obtain ⟨rs, h1, h2, h3, h4⟩ := hx.same s1
    refine ⟨rfl, ?_⟩
    refine ⟨p, rs, xs, rfl, h1, h2, h3, fun H2 m s2 hm => ?_⟩
    have hM2 := s2 _ _ hM
    refine ⟨_, hM2, line_lt (by rw [List.length_map]; omega), ?_, ms ++ [m], by rw [upd_same, List.map_append]; rfl, by rw [List.length_append, hml]; rfl, fun j m' hj => ?_⟩
    · intro b o hb
      rw [upd_ne (ne_of_none hb nM)]
      exact s2 _ _ (s1 _ _ hb)
    · have kp : ∀ b o, (∀ l, o ≠ HO.lst l) → H2 b = some o → (upd H2 M (.lst (ms.map V.ref ++ [.ref m]))) b = some o := fun b o ho hb => by
        rw [upd_ne (ne_of hb hM2 (ho _))]
        exact hb
      by_cases h : j < ms.length
      · rw [List.getElem?_append_left h] at hj
        obtain ⟨p', xs', e1, e2, e3⟩ := hms j m' hj
        exact ⟨p', xs', e1, e2, (e3.same s2).keep kp⟩
      · rw [List.getElem?_append_right (by omega)] at hj
        have hj0 : j - ms.length = 0 := by
          have := (List.getElem?_eq_some_iff.mp hj).1
          rw [List.length_singleton] at this
          omega
        rw [hj0] at hj
        cases hj
        rw [show j = i by omega]
        exact ⟨p, xs, ep, hx, hm.keep kp⟩
  rintro H18 ⟨s18, ms, hM, hml, hms⟩
  rw [List.length_map] at hml
  have get : ∀ i : Nat, i < 7 → ∃ p m xs rs, ps[i]? = some p ∧ ms[i]? = some m ∧ ChAt K H18 m xs ∧ H18 p = some (.lst (rs.map V.ref)) ∧ RowsL H18 rs xs ∧ Good xs ∧ ∀ x ∈ xs, x.f ∈ zs := fun i hi => by
    obtain ⟨m, em⟩ : ∃ m, ms[i]? = some m := ⟨_, List.getElem?_eq_getElem (by omega)⟩
    obtain ⟨p, xs, e1, e2, e3⟩ := hms i m em
    obtain ⟨rs, f1, f2, f3, f4⟩ := e2.same s18
    exact ⟨p, m, xs, rs, e1, em, e3, f1, f2, f3, f4⟩
  have hLL := s18 _ _ I17.hLL
  have hc := s18 _ _ I17.hc
  have at1 : ∀ {qs : List Addr} {i : Nat} {p : Addr}, qs[i]? = some p → atI (qs.map V.ref) (0 + (i : Int)) = some (.ref p) := fun {qs i p} h => by
    rw [Int.zero_add]
    exact atI_nat (by rw [List.getElem?_map, h]; rfl)
  refine .inl ⟨_, .inl (SqL.of hLL), ?_⟩
  rw [List.length_map, hpl]
  refine ⟨7, rfl, by decide, by decide, ?_⟩
  refine for_range (lo := 0) (n := 7) (fun i σ' H' => ∃ (y z w u : Option V), σ' = [some (.ref a), some (.ref st), some (.ref pn), some (.ref d), y, some (.ref LL), z, some (.ref M), w, u, none] ∧ Same H18 H') ⟨_, _, _, _, rfl, Same.refl _⟩ ?_ ?_
  · rintro i σ' H' hi ⟨y, z, w, u, rfl, sm⟩
    refine .inl ⟨_, .inl (SqL.of (sm _ _ hLL)), ?_⟩
    rw [List.length_map, hpl]
    refine ⟨7, rfl, by decide, by decide, ?_⟩
    refine for_range (lo := 0) (n := 7) (fun j σ' H' => ∃ (y z u : Option V), σ' = [some (.ref a), some (.ref st), some (.ref pn), some (.ref d), y, some (.ref LL), z, some (.ref M), some (.int (0 + i)), u, none] ∧ Same H18 H') ⟨_, _, _, rfl, sm⟩ ?_ ?_
    · rintro j σ' H2 hj ⟨y, z, u, rfl, sm⟩
      obtain ⟨p1, m1, xs1, rs1, a1, a2, a3, a4, a5, a6, a7⟩ := get i hi
      obtain ⟨p2, m2, xs2, rs2, b1, b2, b3, b4, b5, b6, b7⟩ := get j hj
      refine ⟨_, .inl (SqL.of (sm _ _ hM)), _, at1 a2, _, .inl (SqL.of (sm _ _ hM)), _, at1 b2, _, .inl (SqL.of (sm _ _ hLL)), _, at1 a1, _, .inl (SqL.of (sm _ _ hLL)), _, at1 b1, ?_⟩
      refine ⟨m1, m2, p1, p2, d, rs1, rs2, xs1, xs2, c, rfl, a3.same sm, b3.same sm, sm _ _ a4, a5.same sm, a6, sm _ _ b4, b5.same sm, b6, sm _ _ hc, hI, by omega, fun x hx => ?_, fun H3 s3 => ?_⟩
      · rcases hx with hx | hx
        · exact hHF _ (a7 x hx)
        · exact hHF _ (b7 x hx)
      · exact ⟨_, _, _, rfl, sm.trans s3⟩
    · rintro σ' H2 ⟨y, z, u, rfl, sm⟩
      exact ⟨_, _, _, _, rfl, sm⟩
  rintro σ' H19 ⟨y, z, w, u, rfl, s19⟩
  refine .inl ⟨_, .inl (SqL.of (s19 _ _ hLL)), ?_⟩
  rw [List.length_map, hpl]
  refine ⟨7, rfl, by decide, by decide, ?_⟩
  refine for_range (lo := 0) (n := 7) (fun i σ' H' => ∃ (y z w u : Option V), σ' = [some (.ref a), some (.ref st), some (.ref pn), some (.ref d), y, some (.ref LL), z, some (.ref M), w, u, none] ∧ Same H18 H') ⟨_, _, _, _, rfl, s19⟩ ?_ ?_
  · rintro i σ' H' hi ⟨y, z, w, u, rfl, sm⟩
    obtain ⟨p1, m1, xs1, rs1, a1, a2, a3, a4, a5, a6, a7⟩ := get i hi
    obtain ⟨C, dx, t, rs, hC, ha, ht, hrs⟩ := a3.same sm
    cases hC.symm.trans T.n_Change
    have hA := a3.same sm
    refine ⟨_, .inl (SqL.of (sm _ _ hM)), _, at1 a2, m1, a_Change, dx, _, _, rfl, ha, T.cl_Change, T.na_Change_assignments, rfl, _, .inl (SqL.of (sm _ _ hLL)), _, at1 a1, p1, _, rfl, .inl ⟨SqL.of (sm _ _ a4), fun v nv => ?_⟩⟩
    have sv := same_new (o := .tup (rs1.map V.ref)) nv
    refine ⟨_, _, rfl, same_tup (sv _ _ ht) upd_same (hrs.same sv) ((a5.same sm).same sv) (by have := a6.2.2; omega), ?_⟩
    have s2 := sm.trans sv
    refine ⟨_, .inl (SqL.of (s2 _ _ hM)), _, at1 a2, m1, dx, _, rfl, sv _ _ ha, m1, xs1, rfl, hA.same sv, _, rfl, by omega, by have := a6.2.2; omega, ?_⟩
    refine ⟨_, .inl (SqL.of (s2 _ _ hLL)), _, at1 a1, .inl ⟨_, .inl (SqL.of (s2 _ _ a4)), ?_⟩⟩
    refine ⟨_, _, rfl, .inl ⟨(xs1.length : Int), rfl, by rw [List.length_map, a5.len]⟩, ?_⟩
    exact ⟨_, _, _, _, rfl, s2⟩
  · rintro σ' H' ⟨y, z, w, u, rfl, sm⟩
    exact q H'
end
theorem all_mk {l : PySem.W.OpenLaw} {w : World} {K : PySem.W.Frag} {h : Heap} {mg : Str → Option Value} {fa : Addr} {t_BOUND t_LETTERS t_LONGEST_NAME : Tok} {a_RESERVED a_BadName a_BadNumber a_Change a_ElseputError a_TooLarge a_UnknownField : Addr} {u_Change_MOST : Tok} {f_is_name f_in_bound f_check_name f_check_number f_followed f__law_state f__law_draw f__law_pick f__law_mixed f__law_number f__law_constant f__law_names f__law_is_int f__law_same f__law_changed f_Change___init__ f_Change_none f_Change_adding f_Change_setting f_Change_assigned f_Change___rshift__ f__law_change f__law_some_rows f__law_chained f__law_do f_Change___call__ f__law_joins f_Change___len__ f_law : Addr} {od_is_name an_is_name : Option Addr} {sl_is_name : Array (Option Value)} {oc_is_name kV_is_name dc_is_name pm_is_name cd_is_name ct_is_name : Value} {od_in_bound an_in_bound : Option Addr} {sl_in_bound : Array (Option Value)} {oc_in_bound kV_in_bound dc_in_bound pm_in_bound cd_in_bound ct_in_bound : Value} {od_check_name an_check_name : Option Addr} {sl_check_name : Array (Option Value)} {oc_check_name kV_check_name dc_check_name pm_check_name cd_check_name ct_check_name : Value} {od_check_number an_check_number : Option Addr} {sl_check_number : Array (Option Value)} {oc_check_number kV_check_number dc_check_number pm_check_number cd_check_number ct_check_number : Value} {od_followed an_followed : Option Addr} {sl_followed : Array (Option Value)} {oc_followed kV_followed dc_followed pm_followed cd_followed ct_followed : Value} {od__law_state an__law_state : Option Addr} {sl__law_state : Array (Option Value)} {oc__law_state kV__law_state dc__law_state pm__law_state cd__law_state ct__law_state : Value} {od__law_draw an__law_draw : Option Addr} {sl__law_draw : Array (Option Value)} {oc__law_draw kV__law_draw dc__law_draw pm__law_draw cd__law_draw ct__law_draw : Value} {od__law_pick an__law_pick : Option Addr} {sl__law_pick : Array (Option Value)} {oc__law_pick kV__law_pick dc__law_pick pm__law_pick cd__law_pick ct__law_pick : Value} {od__law_mixed an__law_mixed : Option Addr} {sl__law_mixed : Array (Option Value)} {oc__law_mixed kV__law_mixed dc__law_mixed pm__law_mixed cd__law_mixed ct__law_mixed : Value} {od__law_number an__law_number : Option Addr} {sl__law_number : Array (Option Value)} {oc__law_number kV__law_number dc__law_number pm__law_number cd__law_number ct__law_number : Value} {od__law_constant an__law_constant : Option Addr} {sl__law_constant : Array (Option Value)} {oc__law_constant kV__law_constant dc__law_constant pm__law_constant cd__law_constant ct__law_constant : Value} {od__law_names an__law_names : Option Addr} {sl__law_names : Array (Option Value)} {oc__law_names kV__law_names dc__law_names pm__law_names cd__law_names ct__law_names : Value} {od__law_is_int an__law_is_int : Option Addr} {sl__law_is_int : Array (Option Value)} {oc__law_is_int kV__law_is_int dc__law_is_int pm__law_is_int cd__law_is_int ct__law_is_int : Value} {od__law_same an__law_same : Option Addr} {sl__law_same : Array (Option Value)} {oc__law_same kV__law_same dc__law_same pm__law_same cd__law_same ct__law_same : Value} {od__law_changed an__law_changed : Option Addr} {sl__law_changed : Array (Option Value)} {oc__law_changed kV__law_changed dc__law_changed pm__law_changed cd__law_changed ct__law_changed : Value} {od_Change___init__ an_Change___init__ : Option Addr} {sl_Change___init__ : Array (Option Value)} {oc_Change___init__ kV_Change___init__ dc_Change___init__ pm_Change___init__ cd_Change___init__ ct_Change___init__ : Value} {p_Change_none : Addr} {r_Change_none : List Value} {od_Change_none an_Change_none : Option Addr} {sl_Change_none : Array (Option Value)} {oc_Change_none kV_Change_none dc_Change_none pm_Change_none cd_Change_none ct_Change_none : Value} {p_Change_adding : Addr} {r_Change_adding : List Value} {od_Change_adding an_Change_adding : Option Addr} {sl_Change_adding : Array (Option Value)} {oc_Change_adding kV_Change_adding dc_Change_adding pm_Change_adding cd_Change_adding ct_Change_adding : Value} {p_Change_setting : Addr} {r_Change_setting : List Value} {od_Change_setting an_Change_setting : Option Addr} {sl_Change_setting : Array (Option Value)} {oc_Change_setting kV_Change_setting dc_Change_setting pm_Change_setting cd_Change_setting ct_Change_setting : Value} {p_Change_assigned : Addr} {r_Change_assigned : List Value} {od_Change_assigned an_Change_assigned : Option Addr} {sl_Change_assigned : Array (Option Value)} {oc_Change_assigned kV_Change_assigned dc_Change_assigned pm_Change_assigned cd_Change_assigned ct_Change_assigned : Value} {od_Change___rshift__ an_Change___rshift__ : Option Addr} {sl_Change___rshift__ : Array (Option Value)} {oc_Change___rshift__ kV_Change___rshift__ dc_Change___rshift__ pm_Change___rshift__ cd_Change___rshift__ ct_Change___rshift__ : Value} {od__law_change an__law_change : Option Addr} {sl__law_change : Array (Option Value)} {oc__law_change kV__law_change dc__law_change pm__law_change cd__law_change ct__law_change : Value} {od__law_some_rows an__law_some_rows : Option Addr} {sl__law_some_rows : Array (Option Value)} {oc__law_some_rows kV__law_some_rows dc__law_some_rows pm__law_some_rows cd__law_some_rows ct__law_some_rows : Value} {od__law_chained an__law_chained : Option Addr} {sl__law_chained : Array (Option Value)} {oc__law_chained kV__law_chained dc__law_chained pm__law_chained cd__law_chained ct__law_chained : Value} {od__law_do an__law_do : Option Addr} {sl__law_do : Array (Option Value)} {oc__law_do kV__law_do dc__law_do pm__law_do cd__law_do ct__law_do : Value} {od_Change___call__ an_Change___call__ : Option Addr} {sl_Change___call__ : Array (Option Value)} {oc_Change___call__ kV_Change___call__ dc_Change___call__ pm_Change___call__ cd_Change___call__ ct_Change___call__ : Value} {od__law_joins an__law_joins : Option Addr} {sl__law_joins : Array (Option Value)} {oc__law_joins kV__law_joins dc__law_joins pm__law_joins cd__law_joins ct__law_joins : Value} {od_Change___len__ an_Change___len__ : Option Addr} {sl_Change___len__ : Array (Option Value)} {oc_Change___len__ kV_Change___len__ dc_Change___len__ pm_Change___len__ cd_Change___len__ ct_Change___len__ : Value} {od_law an_law : Option Addr} {sl_law : Array (Option Value)} {oc_law kV_law dc_law pm_law cd_law ct_law : Value} {od_RESERVED : Option Addr} {its_RESERVED : Array Value} {n_RESERVED : Nat} {sl_RESERVED : Array (Option Value)} {f_BadName N_BadName cc_BadName cda_BadName : Addr} {nm_BadName q_BadName : Str} {bs_BadName bm_BadName : List Value} {sn_BadName : List Str} {sub_BadName : List Value} {ab_BadName : Bool} {col_BadName : Option Bool} {dd_BadName : Option Addr} {e0_BadName e1_BadName e2_BadName e3_BadName e5_BadName : Option Value} {oc_BadName doc_BadName pm_BadName ct_BadName ccl_BadName cl_BadName : Value} {od_BadName cdd_BadName cld_BadName : Option Addr} {osl_BadName ccs_BadName csl_BadName : Array (Option Value)} {vs_BadName : Array Value} {file_BadName : Str} {tf_BadName : Tok} {cdD_BadName : ClassData} {f_BadNumber N_BadNumber cc_BadNumber cda_BadNumber : Addr} {nm_BadNumber q_BadNumber : Str} {bs_BadNumber bm_BadNumber : List Value} {sn_BadNumber : List Str} {sub_BadNumber : List Value} {ab_BadNumber : Bool} {col_BadNumber : Option Bool} {dd_BadNumber : Option Addr} {e0_BadNumber e1_BadNumber e2_BadNumber e3_BadNumber e5_BadNumber : Option Value} {oc_BadNumber doc_BadNumber pm_BadNumber ct_BadNumber ccl_BadNumber cl_BadNumber : Value} {od_BadNumber cdd_BadNumber cld_BadNumber : Option Addr} {osl_BadNumber ccs_BadNumber csl_BadNumber : Array (Option Value)} {vs_BadNumber : Array Value} {file_BadNumber : Str} {tf_BadNumber : Tok} {cdD_BadNumber : ClassData} {f_TooLarge N_TooLarge cc_TooLarge cda_TooLarge : Addr} {nm_TooLarge q_TooLarge : Str} {bs_TooLarge bm_TooLarge : List Value} {sn_TooLarge : List Str} {sub_TooLarge : List Value} {ab_TooLarge : Bool} {col_TooLarge : Option Bool} {dd_TooLarge : Option Addr} {e0_TooLarge e1_TooLarge e2_TooLarge e3_TooLarge e5_TooLarge : Option Value} {oc_TooLarge doc_TooLarge pm_TooLarge ct_TooLarge ccl_TooLarge cl_TooLarge : Value} {od_TooLarge cdd_TooLarge cld_TooLarge : Option Addr} {osl_TooLarge ccs_TooLarge csl_TooLarge : Array (Option Value)} {vs_TooLarge : Array Value} {file_TooLarge : Str} {tf_TooLarge : Tok} {cdD_TooLarge : ClassData} (X : K.In h) (G : h.Ns mainGlobals mg) (hfa : mg "law" = some (.ref fa))
    (g_Change : PySem.W.nsIn K mainGlobals "Change" = some (some (.ref a_Change)))
    (pg_Change : PySem.W.plainGet K a_Change Str.empty = true)
    (hx_Change : PySem.W.hasDictIn K a_Change = true)
    (po_Change : PySem.W.plainOver K a_Change = true)
    (st_Change : PySem.W.findIn K (.ref a_Change) "__setattr__" = some (some (.builtin "object.__setattr__")))
    (rr_Change : PySem.W.readsIn K a_Change (.type "type") = true)
    (rg_Change : PySem.W.specialIn K (.ref a_Change) "__getattribute__" = some (some (.builtin "type.__getattribute__")))
    (mi_Change : PySem.W.makesIn K a_Change = true)
    (ko_Change : PySem.W.keepIn K (.ref a_Change) = true)
    (sf_Change : PySem.W.selfFirst K a_Change = true)
    (na_Change_assignments : PySem.W.findIn K (.ref a_Change) "assignments" = some none)
    (cv_Change_MOST : PySem.W.findCls K (.ref a_Change) (.type "type") "MOST" = some (.val (.int 3 u_Change_MOST)))
    (a_is_name : PySem.W.nsIn K mainGlobals "is_name" = some (some (.ref f_is_name)))
    (l_is_name : K.lookup f_is_name = some ⟨oc_is_name, od_is_name, .func (PySem.W.fnOf "is_name" "is_name" (defArgs s_is_name) (defBody s_is_name) (defScope s_is_name) .none kV_is_name dc_is_name pm_is_name an_is_name cd_is_name ct_is_name), sl_is_name⟩)
    (c_is_name : PySem.W.codeIn K cd_is_name "is_name" = true)
    (k_is_name : PySem.W.keepIn K (.ref f_is_name) = true)
    (a_in_bound : PySem.W.nsIn K mainGlobals "in_bound" = some (some (.ref f_in_bound)))
    (l_in_bound : K.lookup f_in_bound = some ⟨oc_in_bound, od_in_bound, .func (PySem.W.fnOf "in_bound" "in_bound" (defArgs s_in_bound) (defBody s_in_bound) (defScope s_in_bound) .none kV_in_bound dc_in_bound pm_in_bound an_in_bound cd_in_bound ct_in_bound), sl_in_bound⟩)
    (c_in_bound : PySem.W.codeIn K cd_in_bound "in_bound" = true)
    (k_in_bound : PySem.W.keepIn K (.ref f_in_bound) = true)
    (a_check_name : PySem.W.nsIn K mainGlobals "check_name" = some (some (.ref f_check_name)))
    (l_check_name : K.lookup f_check_name = some ⟨oc_check_name, od_check_name, .func (PySem.W.fnOf "check_name" "check_name" (defArgs s_check_name) (defBody s_check_name) (defScope s_check_name) .none kV_check_name dc_check_name pm_check_name an_check_name cd_check_name ct_check_name), sl_check_name⟩)
    (c_check_name : PySem.W.codeIn K cd_check_name "check_name" = true)
    (k_check_name : PySem.W.keepIn K (.ref f_check_name) = true)
    (a_check_number : PySem.W.nsIn K mainGlobals "check_number" = some (some (.ref f_check_number)))
    (l_check_number : K.lookup f_check_number = some ⟨oc_check_number, od_check_number, .func (PySem.W.fnOf "check_number" "check_number" (defArgs s_check_number) (defBody s_check_number) (defScope s_check_number) .none kV_check_number dc_check_number pm_check_number an_check_number cd_check_number ct_check_number), sl_check_number⟩)
    (c_check_number : PySem.W.codeIn K cd_check_number "check_number" = true)
    (k_check_number : PySem.W.keepIn K (.ref f_check_number) = true)
    (a_followed : PySem.W.nsIn K mainGlobals "followed" = some (some (.ref f_followed)))
    (l_followed : K.lookup f_followed = some ⟨oc_followed, od_followed, .func (PySem.W.fnOf "followed" "followed" (defArgs s_followed) (defBody s_followed) (defScope s_followed) .none kV_followed dc_followed pm_followed an_followed cd_followed ct_followed), sl_followed⟩)
    (c_followed : PySem.W.codeIn K cd_followed "followed" = true)
    (k_followed : PySem.W.keepIn K (.ref f_followed) = true)
    (a__law_state : PySem.W.nsIn K mainGlobals "_law_state" = some (some (.ref f__law_state)))
    (l__law_state : K.lookup f__law_state = some ⟨oc__law_state, od__law_state, .func (PySem.W.fnOf "_law_state" "_law_state" (defArgs s__law_state) (defBody s__law_state) (defScope s__law_state) .none kV__law_state dc__law_state pm__law_state an__law_state cd__law_state ct__law_state), sl__law_state⟩)
    (c__law_state : PySem.W.codeIn K cd__law_state "_law_state" = true)
    (k__law_state : PySem.W.keepIn K (.ref f__law_state) = true)
    (a__law_draw : PySem.W.nsIn K mainGlobals "_law_draw" = some (some (.ref f__law_draw)))
    (l__law_draw : K.lookup f__law_draw = some ⟨oc__law_draw, od__law_draw, .func (PySem.W.fnOf "_law_draw" "_law_draw" (defArgs s__law_draw) (defBody s__law_draw) (defScope s__law_draw) .none kV__law_draw dc__law_draw pm__law_draw an__law_draw cd__law_draw ct__law_draw), sl__law_draw⟩)
    (c__law_draw : PySem.W.codeIn K cd__law_draw "_law_draw" = true)
    (k__law_draw : PySem.W.keepIn K (.ref f__law_draw) = true)
    (a__law_pick : PySem.W.nsIn K mainGlobals "_law_pick" = some (some (.ref f__law_pick)))
    (l__law_pick : K.lookup f__law_pick = some ⟨oc__law_pick, od__law_pick, .func (PySem.W.fnOf "_law_pick" "_law_pick" (defArgs s__law_pick) (defBody s__law_pick) (defScope s__law_pick) .none kV__law_pick dc__law_pick pm__law_pick an__law_pick cd__law_pick ct__law_pick), sl__law_pick⟩)
    (c__law_pick : PySem.W.codeIn K cd__law_pick "_law_pick" = true)
    (k__law_pick : PySem.W.keepIn K (.ref f__law_pick) = true)
    (a__law_mixed : PySem.W.nsIn K mainGlobals "_law_mixed" = some (some (.ref f__law_mixed)))
    (l__law_mixed : K.lookup f__law_mixed = some ⟨oc__law_mixed, od__law_mixed, .func (PySem.W.fnOf "_law_mixed" "_law_mixed" (defArgs s__law_mixed) (defBody s__law_mixed) (defScope s__law_mixed) .none kV__law_mixed dc__law_mixed pm__law_mixed an__law_mixed cd__law_mixed ct__law_mixed), sl__law_mixed⟩)
    (c__law_mixed : PySem.W.codeIn K cd__law_mixed "_law_mixed" = true)
    (k__law_mixed : PySem.W.keepIn K (.ref f__law_mixed) = true)
    (a__law_number : PySem.W.nsIn K mainGlobals "_law_number" = some (some (.ref f__law_number)))
    (l__law_number : K.lookup f__law_number = some ⟨oc__law_number, od__law_number, .func (PySem.W.fnOf "_law_number" "_law_number" (defArgs s__law_number) (defBody s__law_number) (defScope s__law_number) .none kV__law_number dc__law_number pm__law_number an__law_number cd__law_number ct__law_number), sl__law_number⟩)
    (c__law_number : PySem.W.codeIn K cd__law_number "_law_number" = true)
    (k__law_number : PySem.W.keepIn K (.ref f__law_number) = true)
    (a__law_constant : PySem.W.nsIn K mainGlobals "_law_constant" = some (some (.ref f__law_constant)))
    (l__law_constant : K.lookup f__law_constant = some ⟨oc__law_constant, od__law_constant, .func (PySem.W.fnOf "_law_constant" "_law_constant" (defArgs s__law_constant) (defBody s__law_constant) (defScope s__law_constant) .none kV__law_constant dc__law_constant pm__law_constant an__law_constant cd__law_constant ct__law_constant), sl__law_constant⟩)
    (c__law_constant : PySem.W.codeIn K cd__law_constant "_law_constant" = true)
    (k__law_constant : PySem.W.keepIn K (.ref f__law_constant) = true)
    (a__law_names : PySem.W.nsIn K mainGlobals "_law_names" = some (some (.ref f__law_names)))
    (l__law_names : K.lookup f__law_names = some ⟨oc__law_names, od__law_names, .func (PySem.W.fnOf "_law_names" "_law_names" (defArgs s__law_names) (defBody s__law_names) (defScope s__law_names) .none kV__law_names dc__law_names pm__law_names an__law_names cd__law_names ct__law_names), sl__law_names⟩)
    (c__law_names : PySem.W.codeIn K cd__law_names "_law_names" = true)
    (k__law_names : PySem.W.keepIn K (.ref f__law_names) = true)
    (a__law_is_int : PySem.W.nsIn K mainGlobals "_law_is_int" = some (some (.ref f__law_is_int)))
    (l__law_is_int : K.lookup f__law_is_int = some ⟨oc__law_is_int, od__law_is_int, .func (PySem.W.fnOf "_law_is_int" "_law_is_int" (defArgs s__law_is_int) (defBody s__law_is_int) (defScope s__law_is_int) .none kV__law_is_int dc__law_is_int pm__law_is_int an__law_is_int cd__law_is_int ct__law_is_int), sl__law_is_int⟩)
    (c__law_is_int : PySem.W.codeIn K cd__law_is_int "_law_is_int" = true)
    (k__law_is_int : PySem.W.keepIn K (.ref f__law_is_int) = true)
    (a__law_same : PySem.W.nsIn K mainGlobals "_law_same" = some (some (.ref f__law_same)))
    (l__law_same : K.lookup f__law_same = some ⟨oc__law_same, od__law_same, .func (PySem.W.fnOf "_law_same" "_law_same" (defArgs s__law_same) (defBody s__law_same) (defScope s__law_same) .none kV__law_same dc__law_same pm__law_same an__law_same cd__law_same ct__law_same), sl__law_same⟩)
    (c__law_same : PySem.W.codeIn K cd__law_same "_law_same" = true)
    (k__law_same : PySem.W.keepIn K (.ref f__law_same) = true)
    (a__law_changed : PySem.W.nsIn K mainGlobals "_law_changed" = some (some (.ref f__law_changed)))
    (l__law_changed : K.lookup f__law_changed = some ⟨oc__law_changed, od__law_changed, .func (PySem.W.fnOf "_law_changed" "_law_changed" (defArgs s__law_changed) (defBody s__law_changed) (defScope s__law_changed) .none kV__law_changed dc__law_changed pm__law_changed an__law_changed cd__law_changed ct__law_changed), sl__law_changed⟩)
    (c__law_changed : PySem.W.codeIn K cd__law_changed "_law_changed" = true)
    (k__law_changed : PySem.W.keepIn K (.ref f__law_changed) = true)
    (fa_Change___init__ : PySem.W.findIn K (.ref a_Change) "__init__" = some (some (.ref f_Change___init__)))
    (fn_Change___init__ : PySem.W.isFn K (.ref f_Change___init__) = true)
    (l_Change___init__ : K.lookup f_Change___init__ = some ⟨oc_Change___init__, od_Change___init__, .func (PySem.W.fnOf "__init__" "Change.__init__" (defArgs s_Change___init__) (defBody s_Change___init__) (defScope s_Change___init__) .none kV_Change___init__ dc_Change___init__ pm_Change___init__ an_Change___init__ cd_Change___init__ ct_Change___init__), sl_Change___init__⟩)
    (c_Change___init__ : PySem.W.codeIn K cd_Change___init__ "Change.__init__" = true)
    (k_Change___init__ : PySem.W.keepIn K (.ref f_Change___init__) = true)
    (sg_Change_none : PySem.W.findCls K (.ref a_Change) (.type "type") "none" = some (.get (.builtin "staticmethod.__get__") (.ref p_Change_none) .none (.ref a_Change)))
    (sr_Change_none : PySem.W.recIn K p_Change_none "staticmethod" = some (.ref f_Change_none :: r_Change_none))
    (l_Change_none : K.lookup f_Change_none = some ⟨oc_Change_none, od_Change_none, .func (PySem.W.fnOf "none" "Change.none" (defArgs s_Change_none) (defBody s_Change_none) (defScope s_Change_none) .none kV_Change_none dc_Change_none pm_Change_none an_Change_none cd_Change_none ct_Change_none), sl_Change_none⟩)
    (c_Change_none : PySem.W.codeIn K cd_Change_none "Change.none" = true)
    (k_Change_none : PySem.W.keepIn K (.ref f_Change_none) = true)
    (sg_Change_adding : PySem.W.findCls K (.ref a_Change) (.type "type") "adding" = some (.get (.builtin "staticmethod.__get__") (.ref p_Change_adding) .none (.ref a_Change)))
    (sr_Change_adding : PySem.W.recIn K p_Change_adding "staticmethod" = some (.ref f_Change_adding :: r_Change_adding))
    (l_Change_adding : K.lookup f_Change_adding = some ⟨oc_Change_adding, od_Change_adding, .func (PySem.W.fnOf "adding" "Change.adding" (defArgs s_Change_adding) (defBody s_Change_adding) (defScope s_Change_adding) .none kV_Change_adding dc_Change_adding pm_Change_adding an_Change_adding cd_Change_adding ct_Change_adding), sl_Change_adding⟩)
    (c_Change_adding : PySem.W.codeIn K cd_Change_adding "Change.adding" = true)
    (k_Change_adding : PySem.W.keepIn K (.ref f_Change_adding) = true)
    (sg_Change_setting : PySem.W.findCls K (.ref a_Change) (.type "type") "setting" = some (.get (.builtin "staticmethod.__get__") (.ref p_Change_setting) .none (.ref a_Change)))
    (sr_Change_setting : PySem.W.recIn K p_Change_setting "staticmethod" = some (.ref f_Change_setting :: r_Change_setting))
    (l_Change_setting : K.lookup f_Change_setting = some ⟨oc_Change_setting, od_Change_setting, .func (PySem.W.fnOf "setting" "Change.setting" (defArgs s_Change_setting) (defBody s_Change_setting) (defScope s_Change_setting) .none kV_Change_setting dc_Change_setting pm_Change_setting an_Change_setting cd_Change_setting ct_Change_setting), sl_Change_setting⟩)
    (c_Change_setting : PySem.W.codeIn K cd_Change_setting "Change.setting" = true)
    (k_Change_setting : PySem.W.keepIn K (.ref f_Change_setting) = true)
    (pa_Change_assigned : PySem.W.findIn K (.ref a_Change) "assigned" = some (some (.ref p_Change_assigned)))
    (ps_Change_assigned : PySem.W.specialIn K (.ref p_Change_assigned) "__get__" = some (some (.builtin "property.__get__")))
    (pt_Change_assigned : PySem.W.takesIn K (.ref p_Change_assigned) = some true)
    (pr_Change_assigned : PySem.W.recIn K p_Change_assigned "property" = some (.ref f_Change_assigned :: r_Change_assigned))
    (l_Change_assigned : K.lookup f_Change_assigned = some ⟨oc_Change_assigned, od_Change_assigned, .func (PySem.W.fnOf "assigned" "Change.assigned" (defArgs s_Change_assigned) (defBody s_Change_assigned) (defScope s_Change_assigned) .none kV_Change_assigned dc_Change_assigned pm_Change_assigned an_Change_assigned cd_Change_assigned ct_Change_assigned), sl_Change_assigned⟩)
    (c_Change_assigned : PySem.W.codeIn K cd_Change_assigned "Change.assigned" = true)
    (k_Change_assigned : PySem.W.keepIn K (.ref f_Change_assigned) = true)
    (fa_Change___rshift__ : PySem.W.findIn K (.ref a_Change) "__rshift__" = some (some (.ref f_Change___rshift__)))
    (fn_Change___rshift__ : PySem.W.isFn K (.ref f_Change___rshift__) = true)
    (l_Change___rshift__ : K.lookup f_Change___rshift__ = some ⟨oc_Change___rshift__, od_Change___rshift__, .func (PySem.W.fnOf "__rshift__" "Change.__rshift__" (defArgs s_Change___rshift__) (defBody s_Change___rshift__) (defScope s_Change___rshift__) .none kV_Change___rshift__ dc_Change___rshift__ pm_Change___rshift__ an_Change___rshift__ cd_Change___rshift__ ct_Change___rshift__), sl_Change___rshift__⟩)
    (c_Change___rshift__ : PySem.W.codeIn K cd_Change___rshift__ "Change.__rshift__" = true)
    (k_Change___rshift__ : PySem.W.keepIn K (.ref f_Change___rshift__) = true)
    (a__law_change : PySem.W.nsIn K mainGlobals "_law_change" = some (some (.ref f__law_change)))
    (l__law_change : K.lookup f__law_change = some ⟨oc__law_change, od__law_change, .func (PySem.W.fnOf "_law_change" "_law_change" (defArgs s__law_change) (defBody s__law_change) (defScope s__law_change) .none kV__law_change dc__law_change pm__law_change an__law_change cd__law_change ct__law_change), sl__law_change⟩)
    (c__law_change : PySem.W.codeIn K cd__law_change "_law_change" = true)
    (k__law_change : PySem.W.keepIn K (.ref f__law_change) = true)
    (a__law_some_rows : PySem.W.nsIn K mainGlobals "_law_some_rows" = some (some (.ref f__law_some_rows)))
    (l__law_some_rows : K.lookup f__law_some_rows = some ⟨oc__law_some_rows, od__law_some_rows, .func (PySem.W.fnOf "_law_some_rows" "_law_some_rows" (defArgs s__law_some_rows) (defBody s__law_some_rows) (defScope s__law_some_rows) .none kV__law_some_rows dc__law_some_rows pm__law_some_rows an__law_some_rows cd__law_some_rows ct__law_some_rows), sl__law_some_rows⟩)
    (c__law_some_rows : PySem.W.codeIn K cd__law_some_rows "_law_some_rows" = true)
    (k__law_some_rows : PySem.W.keepIn K (.ref f__law_some_rows) = true)
    (a__law_chained : PySem.W.nsIn K mainGlobals "_law_chained" = some (some (.ref f__law_chained)))
    (l__law_chained : K.lookup f__law_chained = some ⟨oc__law_chained, od__law_chained, .func (PySem.W.fnOf "_law_chained" "_law_chained" (defArgs s__law_chained) (defBody s__law_chained) (defScope s__law_chained) .none kV__law_chained dc__law_chained pm__law_chained an__law_chained cd__law_chained ct__law_chained), sl__law_chained⟩)
    (c__law_chained : PySem.W.codeIn K cd__law_chained "_law_chained" = true)
    (k__law_chained : PySem.W.keepIn K (.ref f__law_chained) = true)
    (a__law_do : PySem.W.nsIn K mainGlobals "_law_do" = some (some (.ref f__law_do)))
    (l__law_do : K.lookup f__law_do = some ⟨oc__law_do, od__law_do, .func (PySem.W.fnOf "_law_do" "_law_do" (defArgs s__law_do) (defBody s__law_do) (defScope s__law_do) .none kV__law_do dc__law_do pm__law_do an__law_do cd__law_do ct__law_do), sl__law_do⟩)
    (c__law_do : PySem.W.codeIn K cd__law_do "_law_do" = true)
    (k__law_do : PySem.W.keepIn K (.ref f__law_do) = true)
    (fa_Change___call__ : PySem.W.findIn K (.ref a_Change) "__call__" = some (some (.ref f_Change___call__)))
    (fn_Change___call__ : PySem.W.isFn K (.ref f_Change___call__) = true)
    (fi_Change___call__ : PySem.W.fnIn K f_Change___call__ = true)
    (l_Change___call__ : K.lookup f_Change___call__ = some ⟨oc_Change___call__, od_Change___call__, .func (PySem.W.fnOf "__call__" "Change.__call__" (defArgs s_Change___call__) (defBody s_Change___call__) (defScope s_Change___call__) .none kV_Change___call__ dc_Change___call__ pm_Change___call__ an_Change___call__ cd_Change___call__ ct_Change___call__), sl_Change___call__⟩)
    (c_Change___call__ : PySem.W.codeIn K cd_Change___call__ "Change.__call__" = true)
    (k_Change___call__ : PySem.W.keepIn K (.ref f_Change___call__) = true)
    (a__law_joins : PySem.W.nsIn K mainGlobals "_law_joins" = some (some (.ref f__law_joins)))
    (l__law_joins : K.lookup f__law_joins = some ⟨oc__law_joins, od__law_joins, .func (PySem.W.fnOf "_law_joins" "_law_joins" (defArgs s__law_joins) (defBody s__law_joins) (defScope s__law_joins) .none kV__law_joins dc__law_joins pm__law_joins an__law_joins cd__law_joins ct__law_joins), sl__law_joins⟩)
    (c__law_joins : PySem.W.codeIn K cd__law_joins "_law_joins" = true)
    (k__law_joins : PySem.W.keepIn K (.ref f__law_joins) = true)
    (fa_Change___len__ : PySem.W.findIn K (.ref a_Change) "__len__" = some (some (.ref f_Change___len__)))
    (fn_Change___len__ : PySem.W.isFn K (.ref f_Change___len__) = true)
    (l_Change___len__ : K.lookup f_Change___len__ = some ⟨oc_Change___len__, od_Change___len__, .func (PySem.W.fnOf "__len__" "Change.__len__" (defArgs s_Change___len__) (defBody s_Change___len__) (defScope s_Change___len__) .none kV_Change___len__ dc_Change___len__ pm_Change___len__ an_Change___len__ cd_Change___len__ ct_Change___len__), sl_Change___len__⟩)
    (c_Change___len__ : PySem.W.codeIn K cd_Change___len__ "Change.__len__" = true)
    (k_Change___len__ : PySem.W.keepIn K (.ref f_Change___len__) = true)
    (a_law : PySem.W.nsIn K mainGlobals "law" = some (some (.ref f_law)))
    (l_law : K.lookup f_law = some ⟨oc_law, od_law, .func (PySem.W.fnOf "law" "law" (defArgs s_law) (defBody s_law) (defScope s_law) .none kV_law dc_law pm_law an_law cd_law ct_law), sl_law⟩)
    (c_law : PySem.W.codeIn K cd_law "law" = true)
    (k_law : PySem.W.keepIn K (.ref f_law) = true)
    (z_ValueError : PySem.W.nsIn K mainGlobals "ValueError" = some none)
    (z_all : PySem.W.nsIn K mainGlobals "all" = some none)
    (z_bool : PySem.W.nsIn K mainGlobals "bool" = some none)
    (z_dict : PySem.W.nsIn K mainGlobals "dict" = some none)
    (z_int : PySem.W.nsIn K mainGlobals "int" = some none)
    (z_isinstance : PySem.W.nsIn K mainGlobals "isinstance" = some none)
    (z_len : PySem.W.nsIn K mainGlobals "len" = some none)
    (z_list : PySem.W.nsIn K mainGlobals "list" = some none)
    (z_property : PySem.W.nsIn K mainGlobals "property" = some none)
    (z_range : PySem.W.nsIn K mainGlobals "range" = some none)
    (z_staticmethod : PySem.W.nsIn K mainGlobals "staticmethod" = some none)
    (z_str : PySem.W.nsIn K mainGlobals "str" = some none)
    (z_super : PySem.W.nsIn K mainGlobals "super" = some none)
    (z_tuple : PySem.W.nsIn K mainGlobals "tuple" = some none)
    (g_BOUND : PySem.W.nsIn K mainGlobals "BOUND" = some (some (.int 1000000000000000000000000000000 t_BOUND)))
    (g_LETTERS : PySem.W.nsIn K mainGlobals "LETTERS" = some (some (.str "abcdefghijklmnopqrstuvwxyz" t_LETTERS)))
    (g_LONGEST_NAME : PySem.W.nsIn K mainGlobals "LONGEST_NAME" = some (some (.int 12 t_LONGEST_NAME)))
    (g_RESERVED : PySem.W.nsIn K mainGlobals "RESERVED" = some (some (.ref a_RESERVED)))
    (l_RESERVED : K.lookup a_RESERVED = some ⟨.type "tuple", od_RESERVED, .seq its_RESERVED n_RESERVED, sl_RESERVED⟩)
    (v_RESERVED : Vals [(.str "always"), (.str "never"), (.str "and"), (.str "or"), (.str "not"), (.str "when"), (.str "add"), (.str "set"), (.str "change"), (.str "tell"), (.str "refuse"), (.str "take"), (.str "look"), (.str "free"), (.str "lock"), (.str "keep"), (.str "keys"), (.str "fields")] its_RESERVED.toList)
    (g_BadName : PySem.W.nsIn K mainGlobals "BadName" = some (some (.ref a_BadName)))
    (g_BadNumber : PySem.W.nsIn K mainGlobals "BadNumber" = some (some (.ref a_BadNumber)))
    (g_ElseputError : PySem.W.nsIn K mainGlobals "ElseputError" = some (some (.ref a_ElseputError)))
    (g_TooLarge : PySem.W.nsIn K mainGlobals "TooLarge" = some (some (.ref a_TooLarge)))
    (g_UnknownField : PySem.W.nsIn K mainGlobals "UnknownField" = some (some (.ref a_UnknownField)))
    (st_any : PySem.W.nsIn K PySem.cStatics "thirdparty.any" = some none)
    (htop : (l.prog.main.scope.names.lookup ("super" : Str)).isSome = false)
    (xc_BadName : K.lookup a_BadName = some (excClassObj nm_BadName q_BadName a_BadName N_BadName bs_BadName bm_BadName true sn_BadName sub_BadName ab_BadName col_BadName dd_BadName e0_BadName e1_BadName e2_BadName e3_BadName e5_BadName "ValueError.__new__"))
    (ref_BadName : PySem.HandSPX.refsVE bm_BadName = true)
    (sa_BadName : PySem.W.findIn K (.ref a_BadName) "__setattr__" = some (some (.builtin "object.__setattr__")))
    (eb_BadName : PySem.W.subIn K (.ref a_BadName) (.type "BaseException") = some true)
    (ty_BadName : PySem.W.typeIn K (.ref a_BadName) = some (.type "type"))
    (kC_BadName : PySem.W.keepIn K (.ref a_BadName) = true)
    (iC_BadName : PySem.W.findIn K (.ref a_BadName) "__init__" = some (some (.ref f_BadName)))
    (tI_BadName : PySem.W.typeIn K (.ref f_BadName) = some (.type "function"))
    (sup_BadName : PySem.W.ks_superIn K a_BadName a_BadName "__init__" = some (some (.builtin "ValueError.__init__")))
    (sv_BadName : PySem.W.subIn K (.ref a_BadName) (.type "ValueError") = some true)
    (mro_BadName : PySem.W.mroIn K a_BadName (.ref a_BadName) = some true)
    (no0_BadName : PySem.W.findIn K (.ref a_BadName) "name" = some none)
    (ga_BadName : PySem.W.findIn K (.ref a_BadName) "__getattribute__" = some (some (.builtin "BaseException.__getattribute__")))
    (gg_BadName : PySem.W.findIn K (.ref a_BadName) "__getattr__" = some none)
    (hd_BadName : PySem.W.hasDictIn K a_BadName = true)
    (hcl_BadName : PySem.W.findIn K (.ref a_BadName) "__class__" = some (some (.builtin "object.__class__")))
    (hn_BadName : PySem.W.specialIn K (.builtin "object.__class__") "__get__" = some (some (.builtin "getset_descriptor.__get__")))
    (ht_BadName : PySem.W.takesIn K (.builtin "object.__class__") = some true)
    (hm_BadName : PySem.W.mroIn K a_BadName (.type "object") = some true)
    (lf_BadName : K.lookup f_BadName = some ⟨oc_BadName, od_BadName, .func (PySem.W.fnX "__init__" "BadName.__init__" (defArgs s_BadName) (defBody s_BadName) (defScope s_BadName) [("__class__", cc_BadName)] .none .none doc_BadName pm_BadName none (.ref cda_BadName) ct_BadName), osl_BadName⟩)
    (cd_BadName : PySem.W.codeIn K (.ref cda_BadName) "BadName.__init__" = true)
    (lc_BadName : K.lookup cda_BadName = some ⟨ccl_BadName, cdd_BadName, .fields vs_BadName, ccs_BadName⟩)
    (v2_BadName : vs_BadName[2]? = some (.str file_BadName tf_BadName))
    (fe_BadName : ((l.prog.main.file : Str) == file_BadName) = true)
    (lcc_BadName : K.lookup cc_BadName = some ⟨cl_BadName, cld_BadName, .cell (some (.ref a_BadName)), csl_BadName⟩)
    (hD_BadName : PySem.W.clsIn K a_BadName = some cdD_BadName)
    (xc_BadNumber : K.lookup a_BadNumber = some (excClassObj nm_BadNumber q_BadNumber a_BadNumber N_BadNumber bs_BadNumber bm_BadNumber true sn_BadNumber sub_BadNumber ab_BadNumber col_BadNumber dd_BadNumber e0_BadNumber e1_BadNumber e2_BadNumber e3_BadNumber e5_BadNumber "ValueError.__new__"))
    (ref_BadNumber : PySem.HandSPX.refsVE bm_BadNumber = true)
    (sa_BadNumber : PySem.W.findIn K (.ref a_BadNumber) "__setattr__" = some (some (.builtin "object.__setattr__")))
    (eb_BadNumber : PySem.W.subIn K (.ref a_BadNumber) (.type "BaseException") = some true)
    (ty_BadNumber : PySem.W.typeIn K (.ref a_BadNumber) = some (.type "type"))
    (kC_BadNumber : PySem.W.keepIn K (.ref a_BadNumber) = true)
    (iC_BadNumber : PySem.W.findIn K (.ref a_BadNumber) "__init__" = some (some (.ref f_BadNumber)))
    (tI_BadNumber : PySem.W.typeIn K (.ref f_BadNumber) = some (.type "function"))
    (sup_BadNumber : PySem.W.ks_superIn K a_BadNumber a_BadNumber "__init__" = some (some (.builtin "ValueError.__init__")))
    (sv_BadNumber : PySem.W.subIn K (.ref a_BadNumber) (.type "ValueError") = some true)
    (mro_BadNumber : PySem.W.mroIn K a_BadNumber (.ref a_BadNumber) = some true)
    (no0_BadNumber : PySem.W.findIn K (.ref a_BadNumber) "value" = some none)
    (ga_BadNumber : PySem.W.findIn K (.ref a_BadNumber) "__getattribute__" = some (some (.builtin "BaseException.__getattribute__")))
    (gg_BadNumber : PySem.W.findIn K (.ref a_BadNumber) "__getattr__" = some none)
    (hd_BadNumber : PySem.W.hasDictIn K a_BadNumber = true)
    (hcl_BadNumber : PySem.W.findIn K (.ref a_BadNumber) "__class__" = some (some (.builtin "object.__class__")))
    (hn_BadNumber : PySem.W.specialIn K (.builtin "object.__class__") "__get__" = some (some (.builtin "getset_descriptor.__get__")))
    (ht_BadNumber : PySem.W.takesIn K (.builtin "object.__class__") = some true)
    (hm_BadNumber : PySem.W.mroIn K a_BadNumber (.type "object") = some true)
    (lf_BadNumber : K.lookup f_BadNumber = some ⟨oc_BadNumber, od_BadNumber, .func (PySem.W.fnX "__init__" "BadNumber.__init__" (defArgs s_BadNumber) (defBody s_BadNumber) (defScope s_BadNumber) [("__class__", cc_BadNumber)] .none .none doc_BadNumber pm_BadNumber none (.ref cda_BadNumber) ct_BadNumber), osl_BadNumber⟩)
    (cd_BadNumber : PySem.W.codeIn K (.ref cda_BadNumber) "BadNumber.__init__" = true)
    (lc_BadNumber : K.lookup cda_BadNumber = some ⟨ccl_BadNumber, cdd_BadNumber, .fields vs_BadNumber, ccs_BadNumber⟩)
    (v2_BadNumber : vs_BadNumber[2]? = some (.str file_BadNumber tf_BadNumber))
    (fe_BadNumber : ((l.prog.main.file : Str) == file_BadNumber) = true)
    (lcc_BadNumber : K.lookup cc_BadNumber = some ⟨cl_BadNumber, cld_BadNumber, .cell (some (.ref a_BadNumber)), csl_BadNumber⟩)
    (hD_BadNumber : PySem.W.clsIn K a_BadNumber = some cdD_BadNumber)
    (xc_TooLarge : K.lookup a_TooLarge = some (excClassObj nm_TooLarge q_TooLarge a_TooLarge N_TooLarge bs_TooLarge bm_TooLarge true sn_TooLarge sub_TooLarge ab_TooLarge col_TooLarge dd_TooLarge e0_TooLarge e1_TooLarge e2_TooLarge e3_TooLarge e5_TooLarge "ValueError.__new__"))
    (ref_TooLarge : PySem.HandSPX.refsVE bm_TooLarge = true)
    (sa_TooLarge : PySem.W.findIn K (.ref a_TooLarge) "__setattr__" = some (some (.builtin "object.__setattr__")))
    (eb_TooLarge : PySem.W.subIn K (.ref a_TooLarge) (.type "BaseException") = some true)
    (ty_TooLarge : PySem.W.typeIn K (.ref a_TooLarge) = some (.type "type"))
    (kC_TooLarge : PySem.W.keepIn K (.ref a_TooLarge) = true)
    (iC_TooLarge : PySem.W.findIn K (.ref a_TooLarge) "__init__" = some (some (.ref f_TooLarge)))
    (tI_TooLarge : PySem.W.typeIn K (.ref f_TooLarge) = some (.type "function"))
    (sup_TooLarge : PySem.W.ks_superIn K a_TooLarge a_TooLarge "__init__" = some (some (.builtin "ValueError.__init__")))
    (sv_TooLarge : PySem.W.subIn K (.ref a_TooLarge) (.type "ValueError") = some true)
    (mro_TooLarge : PySem.W.mroIn K a_TooLarge (.ref a_TooLarge) = some true)
    (no0_TooLarge : PySem.W.findIn K (.ref a_TooLarge) "most" = some none)
    (ga_TooLarge : PySem.W.findIn K (.ref a_TooLarge) "__getattribute__" = some (some (.builtin "BaseException.__getattribute__")))
    (gg_TooLarge : PySem.W.findIn K (.ref a_TooLarge) "__getattr__" = some none)
    (hd_TooLarge : PySem.W.hasDictIn K a_TooLarge = true)
    (hcl_TooLarge : PySem.W.findIn K (.ref a_TooLarge) "__class__" = some (some (.builtin "object.__class__")))
    (hn_TooLarge : PySem.W.specialIn K (.builtin "object.__class__") "__get__" = some (some (.builtin "getset_descriptor.__get__")))
    (ht_TooLarge : PySem.W.takesIn K (.builtin "object.__class__") = some true)
    (hm_TooLarge : PySem.W.mroIn K a_TooLarge (.type "object") = some true)
    (lf_TooLarge : K.lookup f_TooLarge = some ⟨oc_TooLarge, od_TooLarge, .func (PySem.W.fnX "__init__" "TooLarge.__init__" (defArgs s_TooLarge) (defBody s_TooLarge) (defScope s_TooLarge) [("__class__", cc_TooLarge)] .none .none doc_TooLarge pm_TooLarge none (.ref cda_TooLarge) ct_TooLarge), osl_TooLarge⟩)
    (cd_TooLarge : PySem.W.codeIn K (.ref cda_TooLarge) "TooLarge.__init__" = true)
    (lc_TooLarge : K.lookup cda_TooLarge = some ⟨ccl_TooLarge, cdd_TooLarge, .fields vs_TooLarge, ccs_TooLarge⟩)
    (v2_TooLarge : vs_TooLarge[2]? = some (.str file_TooLarge tf_TooLarge))
    (fe_TooLarge : ((l.prog.main.file : Str) == file_TooLarge) = true)
    (lcc_TooLarge : K.lookup cc_TooLarge = some ⟨cl_TooLarge, cld_TooLarge, .cell (some (.ref a_TooLarge)), csl_TooLarge⟩)
    (hD_TooLarge : PySem.W.clsIn K a_TooLarge = some cdD_TooLarge)
    (mb_ElseputError : PySem.W.subIn K (.ref a_ElseputError) (.type "BaseException") = some true)
    (md_ElseputError : PySem.W.hasDictIn K a_ElseputError = true)
    (mt_ElseputError : PySem.W.typeIn K (.ref a_ElseputError) = some (.type "type"))
    (ms_TooLarge_ElseputError : PySem.W.subIn K (.ref a_TooLarge) (.ref a_ElseputError) = some true)
    (kit_TooLarge_TooLarge : PySem.W.kitOne K (.ref a_TooLarge) (.ref a_TooLarge) = some true)
    (kit_TooLarge_ValueError : PySem.W.kitOne K (.ref a_TooLarge) (.type "ValueError") = some true)
    (kit_TooLarge_BadNumber : PySem.W.kitOne K (.ref a_TooLarge) (.ref a_BadNumber) = some false)
    : ∃ fd : FuncData, (∀ (s : Shared) (v : Value), BindsTo s fd ⟨[v], []⟩ [("_law_script", v)]) ∧ ∀ base : Heap, K.In base → base.Ns mainGlobals mg → FnOk l.prog w K mg base CX0 11 fa fd ["_law_script"] (spLaw K) := by
  have e := hfa.symm.trans (PySem.W.mg_of X G a_law)
  cases e
  have XK_BadName : ExK K a_BadName f_BadName ["name"] := exk_mk xc_BadName ref_BadName sa_BadName eb_BadName ty_BadName kC_BadName sup_BadName sv_BadName mro_BadName iC_BadName tI_BadName (fun f hf => by simp only [List.mem_cons, List.not_mem_nil, or_false] at hf; subst hf; exact no0_BadName) ga_BadName gg_BadName hd_BadName hcl_BadName hn_BadName ht_BadName hm_BadName
  have XK_BadNumber : ExK K a_BadNumber f_BadNumber ["value"] := exk_mk xc_BadNumber ref_BadNumber sa_BadNumber eb_BadNumber ty_BadNumber kC_BadNumber sup_BadNumber sv_BadNumber mro_BadNumber iC_BadNumber tI_BadNumber (fun f hf => by simp only [List.mem_cons, List.not_mem_nil, or_false] at hf; subst hf; exact no0_BadNumber) ga_BadNumber gg_BadNumber hd_BadNumber hcl_BadNumber hn_BadNumber ht_BadNumber hm_BadNumber
  have XK_TooLarge : ExK K a_TooLarge f_TooLarge ["most"] := exk_mk xc_TooLarge ref_TooLarge sa_TooLarge eb_TooLarge ty_TooLarge kC_TooLarge sup_TooLarge sv_TooLarge mro_TooLarge iC_TooLarge tI_TooLarge (fun f hf => by simp only [List.mem_cons, List.not_mem_nil, or_false] at hf; subst hf; exact no0_TooLarge) ga_TooLarge gg_TooLarge hd_TooLarge hcl_TooLarge hn_TooLarge ht_TooLarge hm_TooLarge
  have T : Gs K mg t_BOUND t_LETTERS t_LONGEST_NAME a_RESERVED a_BadName a_BadNumber a_Change a_ElseputError a_TooLarge a_UnknownField := { z_ValueError := PySem.W.mg_none_of X G z_ValueError, z_all := PySem.W.mg_none_of X G z_all, z_bool := PySem.W.mg_none_of X G z_bool, z_dict := PySem.W.mg_none_of X G z_dict, z_int := PySem.W.mg_none_of X G z_int, z_isinstance := PySem.W.mg_none_of X G z_isinstance, z_len := PySem.W.mg_none_of X G z_len, z_list := PySem.W.mg_none_of X G z_list, z_property := PySem.W.mg_none_of X G z_property, z_range := PySem.W.mg_none_of X G z_range, z_staticmethod := PySem.W.mg_none_of X G z_staticmethod, z_str := PySem.W.mg_none_of X G z_str, z_super := PySem.W.mg_none_of X G z_super, z_tuple := PySem.W.mg_none_of X G z_tuple, g_BOUND := PySem.W.mg_of X G g_BOUND, g_LETTERS := PySem.W.mg_of X G g_LETTERS, g_LONGEST_NAME := PySem.W.mg_of X G g_LONGEST_NAME, g_RESERVED := PySem.W.mg_of X G g_RESERVED, g_BadName := PySem.W.mg_of X G g_BadName, g_BadNumber := PySem.W.mg_of X G g_BadNumber, g_Change := PySem.W.mg_of X G g_Change, g_ElseputError := PySem.W.mg_of X G g_ElseputError, g_TooLarge := PySem.W.mg_of X G g_TooLarge, g_UnknownField := PySem.W.mg_of X G g_UnknownField, q_RESERVED := fun _ => .inr ⟨_, _, _, l_RESERVED, rfl, rfl, (by have e : _ = its_RESERVED.size := v_RESERVED.length.trans Array.length_toList; rw [← e]; decide), v_RESERVED⟩, n_ElseputError := g_ElseputError, n_BadName := g_BadName, n_BadNumber := g_BadNumber, n_TooLarge := g_TooLarge, n_UnknownField := g_UnknownField, n_Change := g_Change, x_BadName := ⟨XK_BadName.no, XK_BadName.xf, XK_BadName.is⟩, x_BadNumber := ⟨XK_BadNumber.no, XK_BadNumber.xf, XK_BadNumber.is⟩, x_TooLarge := ⟨XK_TooLarge.no, XK_TooLarge.xf, XK_TooLarge.is⟩, cl_Change := ⟨pg_Change, hx_Change, po_Change, st_Change⟩, rd_Change := ⟨rr_Change, rg_Change⟩, na_Change_assignments := na_Change_assignments, cv_Change_MOST := ⟨_, cv_Change_MOST, ⟨_, rfl⟩⟩, m_TooLarge_ElseputError := PySem.W.exm_ref mb_ElseputError md_ElseputError mt_ElseputError ms_TooLarge_ElseputError, k_TooLarge_TooLarge := kit_TooLarge_TooLarge, k_TooLarge_ValueError := kit_TooLarge_ValueError, k_TooLarge_BadNumber := kit_TooLarge_BadNumber }
  have F_is_name := fun_mk (st := s_is_name) l_is_name c_is_name k_is_name
  have b_is_name := F_is_name.binds (ps := ["text"]) fun _ _ _ _ _ _ us hl => match us, hl with | [_], _ => rfl
  have F_in_bound := fun_mk (st := s_in_bound) l_in_bound c_in_bound k_in_bound
  have b_in_bound := F_in_bound.binds (ps := ["value"]) fun _ _ _ _ _ _ us hl => match us, hl with | [_], _ => rfl
  have F_check_name := fun_mk (st := s_check_name) l_check_name c_check_name k_check_name
  have b_check_name := F_check_name.binds (ps := ["text"]) fun _ _ _ _ _ _ us hl => match us, hl with | [_], _ => rfl
  have F_check_number := fun_mk (st := s_check_number) l_check_number c_check_number k_check_number
  have b_check_number := F_check_number.binds (ps := ["value"]) fun _ _ _ _ _ _ us hl => match us, hl with | [_], _ => rfl
  have F_followed := fun_mk (st := s_followed) l_followed c_followed k_followed
  have b_followed := F_followed.binds (ps := ["assignment", "later"]) fun _ _ _ _ _ _ us hl => match us, hl with | [_, _], _ => rfl
  have F__law_state := fun_mk (st := s__law_state) l__law_state c__law_state k__law_state
  have b__law_state := F__law_state.binds (ps := ["_law_script"]) fun _ _ _ _ _ _ us hl => match us, hl with | [_], _ => rfl
  have F__law_draw := fun_mk (st := s__law_draw) l__law_draw c__law_draw k__law_draw
  have b__law_draw := F__law_draw.binds (ps := ["_law_state_here", "_law_many"]) fun _ _ _ _ _ _ us hl => match us, hl with | [_, _], _ => rfl
  have F__law_pick := fun_mk (st := s__law_pick) l__law_pick c__law_pick k__law_pick
  have b__law_pick := F__law_pick.binds (ps := ["_law_state_here", "_law_row"]) fun _ _ _ _ _ _ us hl => match us, hl with | [_, _], _ => rfl
  have F__law_mixed := fun_mk (st := s__law_mixed) l__law_mixed c__law_mixed k__law_mixed
  have b__law_mixed := F__law_mixed.binds (ps := ["_law_state_here", "_law_row"]) fun _ _ _ _ _ _ us hl => match us, hl with | [_, _], _ => rfl
  have F__law_number := fun_mk (st := s__law_number) l__law_number c__law_number k__law_number
  have b__law_number := F__law_number.binds (ps := ["_law_state_here"]) fun _ _ _ _ _ _ us hl => match us, hl with | [_], _ => rfl
  have F__law_constant := fun_mk (st := s__law_constant) l__law_constant c__law_constant k__law_constant
  have b__law_constant := F__law_constant.binds (ps := ["_law_state_here"]) fun _ _ _ _ _ _ us hl => match us, hl with | [_], _ => rfl
  have F__law_names := fun_mk (st := s__law_names) l__law_names c__law_names k__law_names
  have b__law_names := F__law_names.binds (ps := ["_law_state_here", "_law_many"]) fun _ _ _ _ _ _ us hl => match us, hl with | [_, _], _ => rfl
  have F__law_is_int := fun_mk (st := s__law_is_int) l__law_is_int c__law_is_int k__law_is_int
  have b__law_is_int := F__law_is_int.binds (ps := ["_law_thing"]) fun _ _ _ _ _ _ us hl => match us, hl with | [_], _ => rfl
  have F__law_same := fun_mk (st := s__law_same) l__law_same c__law_same k__law_same
  have b__law_same := F__law_same.binds (ps := ["_law_actual", "_law_due"]) fun _ _ _ _ _ _ us hl => match us, hl with | [_, _], _ => rfl
  have F__law_changed := fun_mk (st := s__law_changed) l__law_changed c__law_changed k__law_changed
  have b__law_changed := F__law_changed.binds (ps := ["_law_rows", "_law_content"]) fun _ _ _ _ _ _ us hl => match us, hl with | [_, _], _ => rfl
  have F_Change___init__ := fun_mk (st := s_Change___init__) l_Change___init__ c_Change___init__ k_Change___init__
  have b_Change___init__ := F_Change___init__.binds (ps := ["self", "assignments"]) fun _ _ _ _ _ _ us hl => match us, hl with | [_, _], _ => rfl
  have F_Change_none := fun_mk (st := s_Change_none) l_Change_none c_Change_none k_Change_none
  have b_Change_none := F_Change_none.binds (ps := []) fun _ _ _ _ _ _ us hl => match us, hl with | [], _ => rfl
  have F_Change_adding := fun_mk (st := s_Change_adding) l_Change_adding c_Change_adding k_Change_adding
  have b_Change_adding := F_Change_adding.binds (ps := ["field", "number"]) fun _ _ _ _ _ _ us hl => match us, hl with | [_, _], _ => rfl
  have F_Change_setting := fun_mk (st := s_Change_setting) l_Change_setting c_Change_setting k_Change_setting
  have b_Change_setting := F_Change_setting.binds (ps := ["field", "number"]) fun _ _ _ _ _ _ us hl => match us, hl with | [_, _], _ => rfl
  have F_Change_assigned := fun_mk (st := s_Change_assigned) l_Change_assigned c_Change_assigned k_Change_assigned
  have b_Change_assigned := F_Change_assigned.binds (ps := ["self"]) fun _ _ _ _ _ _ us hl => match us, hl with | [_], _ => rfl
  have F_Change___rshift__ := fun_mk (st := s_Change___rshift__) l_Change___rshift__ c_Change___rshift__ k_Change___rshift__
  have b_Change___rshift__ := F_Change___rshift__.binds (ps := ["self", "other"]) fun _ _ _ _ _ _ us hl => match us, hl with | [_, _], _ => rfl
  have F__law_change := fun_mk (st := s__law_change) l__law_change c__law_change k__law_change
  have b__law_change := F__law_change.binds (ps := ["_law_rows"]) fun _ _ _ _ _ _ us hl => match us, hl with | [_], _ => rfl
  have F__law_some_rows := fun_mk (st := s__law_some_rows) l__law_some_rows c__law_some_rows k__law_some_rows
  have b__law_some_rows := F__law_some_rows.binds (ps := ["_law_state_here", "_law_fields"]) fun _ _ _ _ _ _ us hl => match us, hl with | [_, _], _ => rfl
  have F__law_chained := fun_mk (st := s__law_chained) l__law_chained c__law_chained k__law_chained
  have b__law_chained := F__law_chained.binds (ps := ["_law_first", "_law_second"]) fun _ _ _ _ _ _ us hl => match us, hl with | [_, _], _ => rfl
  have F__law_do := fun_mk (st := s__law_do) l__law_do c__law_do k__law_do
  have b__law_do := F__law_do.binds (ps := ["_law_one", "_law_other"]) fun _ _ _ _ _ _ us hl => match us, hl with | [_, _], _ => rfl
  have F_Change___call__ := fun_mk (st := s_Change___call__) l_Change___call__ c_Change___call__ k_Change___call__
  have b_Change___call__ := F_Change___call__.binds (ps := ["self", "content"]) fun _ _ _ _ _ _ us hl => match us, hl with | [_, _], _ => rfl
  have F__law_joins := fun_mk (st := s__law_joins) l__law_joins c__law_joins k__law_joins
  have b__law_joins := F__law_joins.binds (ps := ["_law_one", "_law_other", "_law_first", "_law_second", "_law_content"]) fun _ _ _ _ _ _ us hl => match us, hl with | [_, _, _, _, _], _ => rfl
  have F_Change___len__ := fun_mk (st := s_Change___len__) l_Change___len__ c_Change___len__ k_Change___len__
  have b_Change___len__ := F_Change___len__.binds (ps := ["self"]) fun _ _ _ _ _ _ us hl => match us, hl with | [_], _ => rfl
  have F_law := fun_mk (st := s_law) l_law c_law k_law
  have b_law := F_law.binds (ps := ["_law_script"]) fun _ _ _ _ _ _ us hl => match us, hl with | [_], _ => rfl
  refine ⟨PySem.W.fnOf "law" "law" (defArgs s_law) (defBody s_law) (defScope s_law) .none kV_law dc_law pm_law an_law cd_law ct_law, fun s v => .of_eq rfl, fun base _ _ => ?_⟩
  have C_TooLarge : CalE l.prog w K mg base 1 "TooLarge" a_TooLarge f_TooLarge _ ["self", "most"] okx_TooLarge fs_TooLarge ["most"] := ⟨ok_TooLarge XK_TooLarge lf_TooLarge cd_TooLarge lc_TooLarge v2_TooLarge fe_TooLarge lcc_TooLarge hD_TooLarge (PySem.W.mg_none_of X G z_super) st_any htop, .all fun us hl => (match us, hl with | [_, _], _ => rfl), XK_TooLarge, PySem.W.mg_of X G g_TooLarge⟩
  have C_is_name : Cal l.prog w K mg base CX0 1 "is_name" f_is_name _ ["text"] (sp_is_name K) := ⟨ok_is_name F_is_name T, b_is_name, k_is_name, PySem.W.mg_of X G a_is_name⟩
  have C_in_bound : Cal l.prog w K mg base CX0 1 "in_bound" f_in_bound _ ["value"] (sp_in_bound K) := ⟨ok_in_bound F_in_bound T, b_in_bound, k_in_bound, PySem.W.mg_of X G a_in_bound⟩
  have C_check_name : Cal l.prog w K mg base CX0 3 "check_name" f_check_name _ ["text"] (sp_check_name K) := ⟨ok_check_name F_check_name T C_is_name, b_check_name, k_check_name, PySem.W.mg_of X G a_check_name⟩
  have C_check_number : Cal l.prog w K mg base CX0 3 "check_number" f_check_number _ ["value"] (sp_check_number K) := ⟨ok_check_number F_check_number T C_in_bound, b_check_number, k_check_number, PySem.W.mg_of X G a_check_number⟩
  have C_followed : Cal l.prog w K mg base CX0 1 "followed" f_followed _ ["assignment", "later"] (sp_followed K) := ⟨ok_followed F_followed T, b_followed, k_followed, PySem.W.mg_of X G a_followed⟩
  have C__law_state : Cal l.prog w K mg base CX0 1 "_law_state" f__law_state _ ["_law_script"] (sp__law_state K) := ⟨ok__law_state F__law_state T, b__law_state, k__law_state, PySem.W.mg_of X G a__law_state⟩
  have C__law_draw : Cal l.prog w K mg base CX0 1 "_law_draw" f__law_draw _ ["_law_state_here", "_law_many"] (sp__law_draw K) := ⟨ok__law_draw F__law_draw T, b__law_draw, k__law_draw, PySem.W.mg_of X G a__law_draw⟩
  have C__law_pick : Cal l.prog w K mg base CX0 2 "_law_pick" f__law_pick _ ["_law_state_here", "_law_row"] (sp__law_pick K) := ⟨ok__law_pick F__law_pick T C__law_draw, b__law_pick, k__law_pick, PySem.W.mg_of X G a__law_pick⟩
  have C__law_mixed : Cal l.prog w K mg base CX0 2 "_law_mixed" f__law_mixed _ ["_law_state_here", "_law_row"] (sp__law_mixed K) := ⟨ok__law_mixed F__law_mixed T C__law_draw, b__law_mixed, k__law_mixed, PySem.W.mg_of X G a__law_mixed⟩
  have C__law_number : Cal l.prog w K mg base CX0 2 "_law_number" f__law_number _ ["_law_state_here"] (sp__law_number K) := ⟨ok__law_number F__law_number T C__law_draw, b__law_number, k__law_number, PySem.W.mg_of X G a__law_number⟩
  have C__law_constant : Cal l.prog w K mg base CX0 3 "_law_constant" f__law_constant _ ["_law_state_here"] (sp__law_constant K) := ⟨ok__law_constant F__law_constant T C__law_number C__law_draw, b__law_constant, k__law_constant, PySem.W.mg_of X G a__law_constant⟩
  have C__law_names : Cal l.prog w K mg base CX0 2 "_law_names" f__law_names _ ["_law_state_here", "_law_many"] (sp__law_names K) := ⟨ok__law_names F__law_names T C__law_draw, b__law_names, k__law_names, PySem.W.mg_of X G a__law_names⟩
  have C__law_is_int : Cal l.prog w K mg base CX0 1 "_law_is_int" f__law_is_int _ ["_law_thing"] (sp__law_is_int K) := ⟨ok__law_is_int F__law_is_int T, b__law_is_int, k__law_is_int, PySem.W.mg_of X G a__law_is_int⟩
  have C__law_same : Cal l.prog w K mg base CX0 6 "_law_same" f__law_same _ ["_law_actual", "_law_due"] (sp__law_same K) := ⟨ok__law_same F__law_same T C__law_is_int b__law_same k__law_same (PySem.W.mg_of X G a__law_same), b__law_same, k__law_same, PySem.W.mg_of X G a__law_same⟩
  have C__law_changed : Cal l.prog w K mg base CX0 1 "_law_changed" f__law_changed _ ["_law_rows", "_law_content"] (sp__law_changed K) := ⟨ok__law_changed F__law_changed T, b__law_changed, k__law_changed, PySem.W.mg_of X G a__law_changed⟩
  have C_Change___init__ : CalI l.prog w K mg base CX0 1 "Change" a_Change f_Change___init__ _ ["self", "assignments"] (sp_Change___init__ K) := ⟨⟨ok_Change___init__ F_Change___init__ T, b_Change___init__⟩, ⟨mi_Change, fa_Change___init__, fn_Change___init__, ko_Change⟩, PySem.W.mg_of X G g_Change⟩
  have C_Change_none : CalS l.prog w K mg base CX0 3 a_Change p_Change_none "none" f_Change_none _ [] (sp_Change_none K) := ⟨⟨ok_Change_none F_Change_none T C_Change___init__, b_Change_none⟩, ⟨rr_Change, rg_Change⟩, ⟨sg_Change_none, ⟨_, sr_Change_none⟩, k_Change_none⟩⟩
  have C_Change_adding : CalS l.prog w K mg base CX0 4 a_Change p_Change_adding "adding" f_Change_adding _ ["field", "number"] (sp_Change_adding K) := ⟨⟨ok_Change_adding F_Change_adding T C_check_name C_check_number C_Change___init__, b_Change_adding⟩, ⟨rr_Change, rg_Change⟩, ⟨sg_Change_adding, ⟨_, sr_Change_adding⟩, k_Change_adding⟩⟩
  have C_Change_setting : CalS l.prog w K mg base CX0 4 a_Change p_Change_setting "setting" f_Change_setting _ ["field", "number"] (sp_Change_setting K) := ⟨⟨ok_Change_setting F_Change_setting T C_check_name C_check_number C_Change___init__, b_Change_setting⟩, ⟨rr_Change, rg_Change⟩, ⟨sg_Change_setting, ⟨_, sr_Change_setting⟩, k_Change_setting⟩⟩
  have C_Change_assigned : CalP l.prog w K mg base CX0 1 a_Change p_Change_assigned "assigned" f_Change_assigned _ ["self"] (sp_Change_assigned K) := ⟨⟨ok_Change_assigned F_Change_assigned T, b_Change_assigned⟩, ⟨pg_Change, hx_Change, po_Change, st_Change⟩, ⟨pa_Change_assigned, ps_Change_assigned, pt_Change_assigned, ⟨_, pr_Change_assigned⟩⟩⟩
  have C_Change___rshift__ : CalO l.prog w K mg base (L2.CX l.prog w) 3 a_Change .RShift f_Change___rshift__ _ ["self", "other"] (sp_Change___rshift__ K) := ⟨⟨ok_Change___rshift__ F_Change___rshift__ T C_followed C_Change___init__ C_Change_assigned C_TooLarge, b_Change___rshift__⟩, ⟨sf_Change, fa_Change___rshift__, fn_Change___rshift__⟩⟩
  have C__law_change : Cal l.prog w K mg base CX0 5 "_law_change" f__law_change _ ["_law_rows"] (sp__law_change K) := ⟨ok__law_change F__law_change T C_Change_none C_Change_adding C_Change_setting C_Change___rshift__, b__law_change, k__law_change, PySem.W.mg_of X G a__law_change⟩
  have C__law_some_rows : Cal l.prog w K mg base CX0 4 "_law_some_rows" f__law_some_rows _ ["_law_state_here", "_law_fields"] (sp__law_some_rows K) := ⟨ok__law_some_rows F__law_some_rows T C__law_mixed C__law_draw C__law_pick C__law_constant, b__law_some_rows, k__law_some_rows, PySem.W.mg_of X G a__law_some_rows⟩
  have C__law_chained : Cal l.prog w K mg base CX0 1 "_law_chained" f__law_chained _ ["_law_first", "_law_second"] (sp__law_chained K) := ⟨ok__law_chained F__law_chained T, b__law_chained, k__law_chained, PySem.W.mg_of X G a__law_chained⟩
  have C__law_do : Cal l.prog w K mg base CX0 4 "_law_do" f__law_do _ ["_law_one", "_law_other"] (sp__law_do K) := ⟨ok__law_do F__law_do T C_Change___rshift__, b__law_do, k__law_do, PySem.W.mg_of X G a__law_do⟩
  have C_Change___call__ : CalC l.prog w K mg base CX0 3 a_Change f_Change___call__ _ ["self", "content"] (sp_Change___call__ K) := ⟨⟨ok_Change___call__ F_Change___call__ T C_Change_assigned, b_Change___call__⟩, ⟨fa_Change___call__, fn_Change___call__, fi_Change___call__⟩⟩
  have C__law_joins : Cal l.prog w K mg base CX0 9 "_law_joins" f__law_joins _ ["_law_one", "_law_other", "_law_first", "_law_second", "_law_content"] (sp__law_joins K) := ⟨ok__law_joins F__law_joins T C__law_chained C__law_changed C__law_same C__law_do C_Change___rshift__ C_Change___call__, b__law_joins, k__law_joins, PySem.W.mg_of X G a__law_joins⟩
  have C_Change___len__ : CalL l.prog w K mg base CX0 1 a_Change f_Change___len__ _ ["self"] (sp_Change___len__ K) := ⟨⟨ok_Change___len__ F_Change___len__ T, b_Change___len__⟩, ⟨fa_Change___len__, fn_Change___len__⟩⟩
  exact ok_law F_law T C__law_state C__law_names C__law_pick C__law_number C__law_some_rows C__law_change C__law_constant C__law_joins C__law_same C_Change___len__
theorem walk {l : PySem.W.OpenLaw} {q : Program} {loose : List Str} {XP : (Str → Option Value) → Heap → Prop} {YP : World → Heap → Prop} {d : DefRec} {K : Params → PySem.W.Frag} (hn : l.most = some 63) (hdf : d.params.defaults = [])
    (hY : ∀ (w : World) (h : Heap), YP w h → (K w.params).In h)
    (F : ∀ (w : World) (mg : Str → Option Value) (fa : Addr) (h : Heap), (K w.params).In h → h.Ns mainGlobals mg → mg d.name = some (.ref fa) →
      ∃ fd : FuncData, (∀ (s : Shared) (u : Value), BindsTo s fd ⟨[u], []⟩ [("_law_script", u)]) ∧ ∀ base : Heap, (K w.params).In base → base.Ns mainGlobals mg → FnOk l.prog w (K w.params) mg base CX0 11 fa fd ["_law_script"] (spLaw (K w.params))) :
    PySem.W.WalkO q loose XP YP l.row.toRowW d [] (fun f vs => PySem.call f vs) :=
  L2.walk_of (n := 63) (k := 11) (x := "_law_script") (CX := fun _ => CX0) (sp := fun w => spLaw (K w.params)) hn (by decide) hdf ⟨rfl, by decide, by decide⟩ hY F (fun _ _ a ns hl _ hS => ⟨a, ns, rfl, hS, hl, fun _ => rfl⟩) fun _ _ _ _ _ z => z
end K12
open PySem PySem.W PyProof.Rows
set_option maxRecDepth 100000 in
set_option maxHeartbeats 0 in
theorem PySem.Challenge.cw_elseput_k12_changes_in_chain_holds : PySem.Challenge.rw_elseput_k12_changes_in_chain.Holds := by
  w_on; o_law; k_head; (case hw => w_witness2)
  k_fill
  refine K12.walk (l := PySem.Challenge.rw_elseput_k12_changes_in_chain) rfl rfl (fun w h Y => PySem.W.kIn_of Y) ?F
  case F =>
    intro w mg fa h KX G hmg
    refine' K12.all_mk KX G hmg ?g_Change ?pg_Change ?hx_Change ?po_Change ?st_Change ?rr_Change ?rg_Change ?mi_Change ?ko_Change ?sf_Change ?na_Change_assignments ?cv_Change_MOST ?a_is_name ?l_is_name ?c_is_name ?k_is_name ?a_in_bound ?l_in_bound ?c_in_bound ?k_in_bound ?a_check_name ?l_check_name ?c_check_name ?k_check_name ?a_check_number ?l_check_number ?c_check_number ?k_check_number ?a_followed ?l_followed ?c_followed ?k_followed ?a__law_state ?l__law_state ?c__law_state ?k__law_state ?a__law_draw ?l__law_draw ?c__law_draw ?k__law_draw ?a__law_pick ?l__law_pick ?c__law_pick ?k__law_pick ?a__law_mixed ?l__law_mixed ?c__law_mixed ?k__law_mixed ?a__law_number ?l__law_number ?c__law_number ?k__law_number ?a__law_constant ?l__law_constant ?c__law_constant ?k__law_constant ?a__law_names ?l__law_names ?c__law_names ?k__law_names ?a__law_is_int ?l__law_is_int ?c__law_is_int ?k__law_is_int ?a__law_same ?l__law_same ?c__law_same ?k__law_same ?a__law_changed ?l__law_changed ?c__law_changed ?k__law_changed ?fa_Change___init__ ?fn_Change___init__ ?l_Change___init__ ?c_Change___init__ ?k_Change___init__ ?sg_Change_none ?sr_Change_none ?l_Change_none ?c_Change_none ?k_Change_none ?sg_Change_adding ?sr_Change_adding ?l_Change_adding ?c_Change_adding ?k_Change_adding ?sg_Change_setting ?sr_Change_setting ?l_Change_setting ?c_Change_setting ?k_Change_setting ?pa_Change_assigned ?ps_Change_assigned ?pt_Change_assigned ?pr_Change_assigned ?l_Change_assigned ?c_Change_assigned ?k_Change_assigned ?fa_Change___rshift__ ?fn_Change___rshift__ ?l_Change___rshift__ ?c_Change___rshift__ ?k_Change___rshift__ ?a__law_change ?l__law_change ?c__law_change ?k__law_change ?a__law_some_rows ?l__law_some_rows ?c__law_some_rows ?k__law_some_rows ?a__law_chained ?l__law_chained ?c__law_chained ?k__law_chained ?a__law_do ?l__law_do ?c__law_do ?k__law_do ?fa_Change___call__ ?fn_Change___call__ ?fi_Change___call__ ?l_Change___call__ ?c_Change___call__ ?k_Change___call__ ?a__law_joins ?l__law_joins ?c__law_joins ?k__law_joins ?fa_Change___len__ ?fn_Change___len__ ?l_Change___len__ ?c_Change___len__ ?k_Change___len__ ?a_law ?l_law ?c_law ?k_law ?z_ValueError ?z_all ?z_bool ?z_dict ?z_int ?z_isinstance ?z_len ?z_list ?z_property ?z_range ?z_staticmethod ?z_str ?z_super ?z_tuple ?g_BOUND ?g_LETTERS ?g_LONGEST_NAME ?g_RESERVED ?l_RESERVED ?v_RESERVED ?g_BadName ?g_BadNumber ?g_ElseputError ?g_TooLarge ?g_UnknownField ?st_any ?htop ?xc_BadName ?ref_BadName ?sa_BadName ?eb_BadName ?ty_BadName ?kC_BadName ?iC_BadName ?tI_BadName ?sup_BadName ?sv_BadName ?mro_BadName ?no0_BadName ?ga_BadName ?gg_BadName ?hd_BadName ?hcl_BadName ?hn_BadName ?ht_BadName ?hm_BadName ?lf_BadName ?cd_BadName ?lc_BadName ?v2_BadName ?fe_BadName ?lcc_BadName ?hD_BadName ?xc_BadNumber ?ref_BadNumber ?sa_BadNumber ?eb_BadNumber ?ty_BadNumber ?kC_BadNumber ?iC_BadNumber ?tI_BadNumber ?sup_BadNumber ?sv_BadNumber ?mro_BadNumber ?no0_BadNumber ?ga_BadNumber ?gg_BadNumber ?hd_BadNumber ?hcl_BadNumber ?hn_BadNumber ?ht_BadNumber ?hm_BadNumber ?lf_BadNumber ?cd_BadNumber ?lc_BadNumber ?v2_BadNumber ?fe_BadNumber ?lcc_BadNumber ?hD_BadNumber ?xc_TooLarge ?ref_TooLarge ?sa_TooLarge ?eb_TooLarge ?ty_TooLarge ?kC_TooLarge ?iC_TooLarge ?tI_TooLarge ?sup_TooLarge ?sv_TooLarge ?mro_TooLarge ?no0_TooLarge ?ga_TooLarge ?gg_TooLarge ?hd_TooLarge ?hcl_TooLarge ?hn_TooLarge ?ht_TooLarge ?hm_TooLarge ?lf_TooLarge ?cd_TooLarge ?lc_TooLarge ?v2_TooLarge ?fe_TooLarge ?lcc_TooLarge ?hD_TooLarge ?mb_ElseputError ?md_ElseputError ?mt_ElseputError ?ms_TooLarge_ElseputError ?kit_TooLarge_TooLarge ?kit_TooLarge_ValueError ?kit_TooLarge_BadNumber
    (case g_Change => k_is)
    (case pg_Change => k_is)
    (case hx_Change => k_is)
    (case po_Change => k_is)
    (case st_Change => k_is)
    (case rr_Change => k_is)
    (case rg_Change => k_is)
    (case mi_Change => k_is)
    (case ko_Change => k_is)
    (case sf_Change => k_is)
    (case na_Change_assignments => k_is)
    (case cv_Change_MOST => k_is)
    (case a_is_name => k_is)
    (case l_is_name => k_is)
    (case c_is_name => k_is)
    (case k_is_name => k_is)
    (case a_in_bound => k_is)
    (case l_in_bound => k_is)
    (case c_in_bound => k_is)
    (case k_in_bound => k_is)
    (case a_check_name => k_is)
    (case l_check_name => k_is)
    (case c_check_name => k_is)
    (case k_check_name => k_is)
    (case a_check_number => k_is)
    (case l_check_number => k_is)
    (case c_check_number => k_is)
    (case k_check_number => k_is)
    (case a_followed => k_is)
    (case l_followed => k_is)
    (case c_followed => k_is)
    (case k_followed => k_is)
    (case a__law_state => k_is)
    (case l__law_state => k_is)
    (case c__law_state => k_is)
    (case k__law_state => k_is)
    (case a__law_draw => k_is)
    (case l__law_draw => k_is)
    (case c__law_draw => k_is)
    (case k__law_draw => k_is)
    (case a__law_pick => k_is)
    (case l__law_pick => k_is)
    (case c__law_pick => k_is)
    (case k__law_pick => k_is)
    (case a__law_mixed => k_is)
    (case l__law_mixed => k_is)
    (case c__law_mixed => k_is)
    (case k__law_mixed => k_is)
    (case a__law_number => k_is)
    (case l__law_number => k_is)
    (case c__law_number => k_is)
    (case k__law_number => k_is)
    (case a__law_constant => k_is)
    (case l__law_constant => k_is)
    (case c__law_constant => k_is)
    (case k__law_constant => k_is)
    (case a__law_names => k_is)
    (case l__law_names => k_is)
    (case c__law_names => k_is)
    (case k__law_names => k_is)
    (case a__law_is_int => k_is)
    (case l__law_is_int => k_is)
    (case c__law_is_int => k_is)
    (case k__law_is_int => k_is)
    (case a__law_same => k_is)
    (case l__law_same => k_is)
    (case c__law_same => k_is)
    (case k__law_same => k_is)
    (case a__law_changed => k_is)
    (case l__law_changed => k_is)
    (case c__law_changed => k_is)
    (case k__law_changed => k_is)
    (case fa_Change___init__ => k_is)
    (case fn_Change___init__ => k_is)
    (case l_Change___init__ => k_is)
    (case c_Change___init__ => k_is)
    (case k_Change___init__ => k_is)
    (case sg_Change_none => k_is)
    (case sr_Change_none => k_is)
    (case l_Change_none => k_is)
    (case c_Change_none => k_is)
    (case k_Change_none => k_is)
    (case sg_Change_adding => k_is)
    (case sr_Change_adding => k_is)
    (case l_Change_adding => k_is)
    (case c_Change_adding => k_is)
    (case k_Change_adding => k_is)
    (case sg_Change_setting => k_is)
    (case sr_Change_setting => k_is)
    (case l_Change_setting => k_is)
    (case c_Change_setting => k_is)
    (case k_Change_setting => k_is)
    (case pa_Change_assigned => k_is)
    (case ps_Change_assigned => k_is)
    (case pt_Change_assigned => k_is)
    (case pr_Change_assigned => k_is)
    (case l_Change_assigned => k_is)
    (case c_Change_assigned => k_is)
    (case k_Change_assigned => k_is)
    (case fa_Change___rshift__ => k_is)
    (case fn_Change___rshift__ => k_is)
    (case l_Change___rshift__ => k_is)
    (case c_Change___rshift__ => k_is)
    (case k_Change___rshift__ => k_is)
    (case a__law_change => k_is)
    (case l__law_change => k_is)
    (case c__law_change => k_is)
    (case k__law_change => k_is)
    (case a__law_some_rows => k_is)
    (case l__law_some_rows => k_is)
    (case c__law_some_rows => k_is)
    (case k__law_some_rows => k_is)
    (case a__law_chained => k_is)
    (case l__law_chained => k_is)
    (case c__law_chained => k_is)
    (case k__law_chained => k_is)
    (case a__law_do => k_is)
    (case l__law_do => k_is)
    (case c__law_do => k_is)
    (case k__law_do => k_is)
    (case fa_Change___call__ => k_is)
    (case fn_Change___call__ => k_is)
    (case fi_Change___call__ => k_is)
    (case l_Change___call__ => k_is)
    (case c_Change___call__ => k_is)
    (case k_Change___call__ => k_is)
    (case a__law_joins => k_is)
    (case l__law_joins => k_is)
    (case c__law_joins => k_is)
    (case k__law_joins => k_is)
    (case fa_Change___len__ => k_is)
    (case fn_Change___len__ => k_is)
    (case l_Change___len__ => k_is)
    (case c_Change___len__ => k_is)
    (case k_Change___len__ => k_is)
    (case a_law => k_is)
    (case l_law => k_is)
    (case c_law => k_is)
    (case k_law => k_is)
    (case z_ValueError => k_is)
    (case z_all => k_is)
    (case z_bool => k_is)
    (case z_dict => k_is)
    (case z_int => k_is)
    (case z_isinstance => k_is)
    (case z_len => k_is)
    (case z_list => k_is)
    (case z_property => k_is)
    (case z_range => k_is)
    (case z_staticmethod => k_is)
    (case z_str => k_is)
    (case z_super => k_is)
    (case z_tuple => k_is)
    (case g_BOUND => k_is)
    (case g_LETTERS => k_is)
    (case g_LONGEST_NAME => k_is)
    (case g_RESERVED => k_is)
    (case l_RESERVED => k_is)
    (case v_RESERVED => (repeat' first | exact .nil | refine .cons ⟨_, rfl⟩ ?_))
    (case g_BadName => k_is)
    (case g_BadNumber => k_is)
    (case g_ElseputError => k_is)
    (case g_TooLarge => k_is)
    (case g_UnknownField => k_is)
    (case st_any => k_is)
    (case htop => first | rfl | decide +kernel | k_is)
    (case xc_BadName => k_is)
    (case ref_BadName => first | rfl | decide +kernel | k_is)
    (case sa_BadName => k_is)
    (case eb_BadName => k_is)
    (case ty_BadName => k_is)
    (case kC_BadName => k_is)
    (case iC_BadName => k_is)
    (case tI_BadName => k_is)
    (case sup_BadName => ks_is)
    (case sv_BadName => k_is)
    (case mro_BadName => k_is)
    (case no0_BadName => k_is)
    (case ga_BadName => k_is)
    (case gg_BadName => k_is)
    (case hd_BadName => k_is)
    (case hcl_BadName => k_is)
    (case hn_BadName => k_is)
    (case ht_BadName => k_is)
    (case hm_BadName => k_is)
    (case lf_BadName => k_is)
    (case cd_BadName => k_is)
    (case lc_BadName => k_is)
    (case v2_BadName => first | rfl | decide +kernel | k_is)
    (case fe_BadName => first | rfl | decide +kernel | k_is)
    (case lcc_BadName => k_is)
    (case hD_BadName => k_is)
    (case xc_BadNumber => k_is)
    (case ref_BadNumber => first | rfl | decide +kernel | k_is)
    (case sa_BadNumber => k_is)
    (case eb_BadNumber => k_is)
    (case ty_BadNumber => k_is)
    (case kC_BadNumber => k_is)
    (case iC_BadNumber => k_is)
    (case tI_BadNumber => k_is)
    (case sup_BadNumber => ks_is)
    (case sv_BadNumber => k_is)
    (case mro_BadNumber => k_is)
    (case no0_BadNumber => k_is)
    (case ga_BadNumber => k_is)
    (case gg_BadNumber => k_is)
    (case hd_BadNumber => k_is)
    (case hcl_BadNumber => k_is)
    (case hn_BadNumber => k_is)
    (case ht_BadNumber => k_is)
    (case hm_BadNumber => k_is)
    (case lf_BadNumber => k_is)
    (case cd_BadNumber => k_is)
    (case lc_BadNumber => k_is)
    (case v2_BadNumber => first | rfl | decide +kernel | k_is)
    (case fe_BadNumber => first | rfl | decide +kernel | k_is)
    (case lcc_BadNumber => k_is)
    (case hD_BadNumber => k_is)
    (case xc_TooLarge => k_is)
    (case ref_TooLarge => first | rfl | decide +kernel | k_is)
    (case sa_TooLarge => k_is)
    (case eb_TooLarge => k_is)
    (case ty_TooLarge => k_is)
    (case kC_TooLarge => k_is)
    (case iC_TooLarge => k_is)
    (case tI_TooLarge => k_is)
    (case sup_TooLarge => ks_is)
    (case sv_TooLarge => k_is)
    (case mro_TooLarge => k_is)
    (case no0_TooLarge => k_is)
    (case ga_TooLarge => k_is)
    (case gg_TooLarge => k_is)
    (case hd_TooLarge => k_is)
    (case hcl_TooLarge => k_is)
    (case hn_TooLarge => k_is)
    (case ht_TooLarge => k_is)
    (case hm_TooLarge => k_is)
    (case lf_TooLarge => k_is)
    (case cd_TooLarge => k_is)
    (case lc_TooLarge => k_is)
    (case v2_TooLarge => first | rfl | decide +kernel | k_is)
    (case fe_TooLarge => first | rfl | decide +kernel | k_is)
    (case lcc_TooLarge => k_is)
    (case hD_TooLarge => k_is)
    (case mb_ElseputError => k_is)
    (case md_ElseputError => k_is)
    (case mt_ElseputError => k_is)
    (case ms_TooLarge_ElseputError => k_is)
    (case kit_TooLarge_TooLarge => kit_is)
    (case kit_TooLarge_ValueError => kit_is)
    (case kit_TooLarge_BadNumber => kit_is)
