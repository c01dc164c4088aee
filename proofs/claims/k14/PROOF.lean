import PyProof.Rows.All
import Wide.All
import OpenK.AllK
import Wide.FinOn
import HandS.ForMost
import HandS.Wide
import HandS.TupAny
import HandS.IsInst
import HandS.Flow
import HandS.Evl
import HandS.Walk
import HandS.ExcInit
import HandS.Nested
import HandS.FStr
import HandS.TryOnly
import HandS.TryMany
import HandS.ExcIs
import HandS.ExcField
import HandS.WordsExc
import HandS.RaiseMore
import KE.KExcSuper
import KE.KExcIs
import PyProof.StrOps2
import PyProof.Rows.ReprOcc
import PyProof.Rows.StrDigits
import PyProof.Rows.StrJoinMade
import HandS.ClsMeth
import HandS.Star
import HandS.Property
import HandS.New
import HandS.ExcOwn
import HandS.More
import HandS.Dict
import HandS.Small
import KE.KOpsOwn
import OpenK.KMeth
import HandS.Conv
import HandS.Finally
import PyProof.StrLawsRepr
import HandS.Defaults
import HandS.Text
import KE.KIntText
import KE.IntTextLaws
import PySem.Challenge.RW_elseput_k14_change_text_and_read
set_option Elab.async false
set_option linter.all false
set_option maxRecDepth 100000
/-! Own words over the hand layer: readings that compute on the values' shapes. -/
namespace El
open PySem PySem.Spec PyProof.Rows L2
section
variable {X : Cx}

theorem wk {e : Expr} {t t' : TE} (h : PE X e t) (i : ∀ σ H Q, t' σ H Q → t σ H Q) : PE X e t' :=
  ⟨fun pins s σ H Q I q => h.run pins s σ H Q I (i σ H Q q)⟩
theorem opwk {f : Value → Value → Sem Value} {r r' : R2} (h : OpR X f r) (i : ∀ x y H Q, r' x y H Q → r x y H Q) : OpR X f r' :=
  fun pins s σ H x y v u Q I rx ry q => h pins s σ H x y v u Q I rx ry (i x y H Q q)
theorem unwk {f : Value → Sem Value} {r r' : V → Hp → VK → Prop} (h : UnR X f r) (i : ∀ x H Q, r' x H Q → r x H Q) : UnR X f r' :=
  fun pins s σ H x v Q I rx q => h pins s σ H x v Q I rx (i x H Q q)
theorem cwk {f : Value} {r r' : List V → Hp → VK → Prop} (h : CallR X f r) (i : ∀ x H Q, r' x H Q → r x H Q) : CallR X f r' :=
  fun pins s σ H x v Q I rx q => h pins s σ H x v Q I rx (i x H Q q)
theorem ixwk {r r' : R2} (h : IxR X r) (i : ∀ x y H Q, r' x y H Q → r x y H Q) : IxR X r' :=
  fun a b pins s σ H x y v u Q I rx ry q => h a b pins s σ H x y v u Q I rx ry (i x y H Q q)
theorem slwk {r r' : V → Option Int → Option Int → Hp → VK → Prop} (h : SlR X r) (i : ∀ x a b H Q, r' x a b H Q → r x a b H Q) : SlR X r' :=
  fun pins s σ H x v vl vu lo hi sl Q I rx hs pl pu q => h pins s σ H x v vl vu lo hi sl Q I rx hs pl pu (i x lo hi H Q q)

/-! ### a name in its slot -/
def tV (i : Nat) : TE := fun σ H Q => match σ[i]? with | some (some v) => Q v H | _ => False
theorem v_ (i : Nat) {x : Str} {pos : Pos} (hN : X.N[i]? = some x := by rfl) (hv : Vis X.env.scope x := by first | exact Or.inl rfl | exact Or.inr (Or.inl rfl) | exact Or.inr (Or.inr rfl)) (hd : (x == ("__debug__" : Str)) = false := by decide)
    (hcd : (x == ("__classdict__" : Str)) = false := by decide) : PE X (.Name x pos) (tV i) :=
  wk (pv i hN hv hd hcd) fun σ H Q q => by
    unfold tV at q
    split at q
    · rename_i v e; exact ⟨v, e, q⟩
    · exact q.elim

/-! ### operators -/
def addM (K : PySem.W.Frag) : R2 := fun x y H Q => match x, y with
  | .int i, .int j => Q (.int (i + j)) H
  | .str i, .str j => i.length + j.length ≤ sizeLine ∧ Q (.str (i ++ j)) H
  | .ref a, .ref b => (∃ xs zs, H a = some (.lst xs) ∧ H b = some (.lst zs) ∧ xs.length + zs.length ≤ sizeLine ∧ ∀ p, H p = none → Q (.ref p) (upd H p (.lst (xs ++ zs)))) ∨ rCatT K (.ref a) (.ref b) H Q
  | _, _ => False
theorem op_addM : OpR X (binaryOp .Add) (addM X.K) := opwk (OpR.or op_add (OpR.or op_add_str (OpR.or op_cat op_catT))) fun x y H Q q => by
  unfold addM at q
  split at q
  · exact .inl ⟨_, _, rfl, rfl, q⟩
  · exact .inr (.inl ⟨_, _, rfl, rfl, q⟩)
  · rcases q with ⟨xs, zs, h1, h2, h3, h4⟩ | q
    · exact .inr (.inr (.inl ⟨_, _, xs, zs, rfl, rfl, h1, h2, h3, h4⟩))
    · exact .inr (.inr (.inr q))
  · exact q.elim
def subM : R2 := fun x y H Q => match x, y with
  | .int i, .int j => Q (.int (i - j)) H
  | _, _ => False
theorem op_subM : OpR X (binaryOp .Sub) subM := opwk op_sub fun x y H Q q => by
  unfold subM at q
  split at q
  · exact ⟨_, _, rfl, rfl, q⟩
  · exact q.elim
def mulM : R2 := fun x y H Q => match x, y with
  | .int i, .int j => (CMul i j ∨ CMulW i j) ∧ Q (.int (i * j)) H
  | .ref l, .int k => ∃ xs, H l = some (.lst xs) ∧ (-(2 ^ 63) ≤ k ∧ k < 2 ^ 63) ∧ xs.length * k.toNat ≤ sizeLine ∧ ∀ p, H p = none → Q (.ref p) (upd H p (.lst (List.replicate k.toNat xs).flatten))
  | _, _ => False
theorem op_mulM : OpR X (binaryOp .Mult) mulM := opwk (OpR.or op_mul (OpR.or op_mulW op_rep)) fun x y H Q q => by
  unfold mulM at q
  split at q
  · obtain ⟨h | h, q⟩ := q
    · exact .inl ⟨_, _, rfl, rfl, h, q⟩
    · exact .inr (.inl ⟨_, _, rfl, rfl, h, q⟩)
  · obtain ⟨xs, h1, h2, h3, h4⟩ := q
    exact .inr (.inr ⟨_, _, xs, rfl, rfl, h1, h2.1, h2.2, h3, h4⟩)
  · exact q.elim
def divM : R2 := fun x y H Q => match x, y with
  | .int i, .int j => (CDiv i j ∨ CDivW i j) ∧ Q (.int (i / j)) H
  | _, _ => False
theorem op_divM : OpR X (binaryOp .FloorDiv) divM := opwk (OpR.or op_fdiv op_fdivW) fun x y H Q q => by
  unfold divM at q
  split at q
  · obtain ⟨h | h, q⟩ := q
    · exact .inl ⟨_, _, rfl, rfl, h, q⟩
    · exact .inr ⟨_, _, rfl, rfl, h, q⟩
  · exact q.elim
def modM : R2 := fun x y H Q => match x, y with
  | .int i, .int j => 0 < j ∧ Q (.int (i % j)) H
  | _, _ => False
theorem op_modM : OpR X (binaryOp .Mod) modM := opwk op_mod fun x y H Q q => by
  unfold modM at q
  split at q
  · exact ⟨_, _, rfl, rfl, q.1, q.2⟩
  · exact q.elim
def powM : R2 := fun x y H Q => match x, y with
  | .int i, .int j => CPow i j ∧ Q (.int (i ^ j.toNat)) H
  | _, _ => False
theorem op_powM : OpR X (binaryOp .Pow) powM := opwk op_pow fun x y H Q q => by
  unfold powM at q
  split at q
  · exact ⟨_, _, rfl, rfl, q.1, q.2⟩
  · exact q.elim
def negM : V → Hp → VK → Prop := fun x H Q => match x with
  | .int i => Q (.int (-i)) H
  | _ => False
theorem un_negM : UnR X (unaryOp .USub) negM := unwk un_neg fun x H Q q => by
  unfold negM at q
  split at q
  · exact ⟨_, rfl, q⟩
  · exact q.elim

/-! ### comparisons -/
def cmpM (f : Int → Int → Bool) : R2 := fun x y H Q => match x, y with
  | .int i, .int j => Q (.bl (f i j)) H
  | _, _ => False
theorem cmpwk {f : Int → Int → Bool} {g : Value → Value → Sem Value} (h : OpR X g (rI0 fun i j => .bl (f i j))) : OpR X g (cmpM f) := opwk h fun x y H Q q => by
  unfold cmpM at q
  split at q
  · exact ⟨_, _, rfl, rfl, q⟩
  · exact q.elim
theorem op_ltM : OpR X (compareOp .Lt) (cmpM fun i j => decide (i < j)) := cmpwk op_lt
theorem op_leM : OpR X (compareOp .LtE) (cmpM fun i j => decide (i ≤ j)) := cmpwk op_le
theorem op_gtM : OpR X (compareOp .Gt) (cmpM fun i j => decide (j < i)) := cmpwk op_gt
theorem op_geM : OpR X (compareOp .GtE) (cmpM fun i j => decide (j ≤ i)) := cmpwk op_ge
/-- ==: of plain values by the values; else of data -/
def eqM (K : PySem.W.Frag) : R2 := fun x y H Q => match x, y with
  | .int i, .int j => Q (.bl (decide (i = j))) H
  | .str i, .str j => Q (.bl (decide (i = j))) H
  | .bl i, .bl j => Q (.bl (decide (i = j))) H
  | .non, .non => Q (.bl true) H
  | .non, .int _ => Q (.bl false) H
  | .int _, .non => Q (.bl false) H
  | .non, .str _ => Q (.bl false) H
  | .str _, .non => Q (.bl false) H
  | .non, .bl _ => Q (.bl false) H
  | .bl _, .non => Q (.bl false) H
  | .int _, .str _ => Q (.bl false) H
  | .str _, .int _ => Q (.bl false) H
  | .bl _, .str _ => Q (.bl false) H
  | .str _, .bl _ => Q (.bl false) H
  | x, y => rEqD K x y H Q
theorem op_eqM (hu : X.A.units + 64 < cLine) : OpR X (compareOp .Eq) (eqM X.K) := opwk (OpR.or op_eq (op_eqD hu)) fun x y H Q q => by
  unfold eqM at q
  split at q
  all_goals first
    | exact .inl ⟨rfl, by simpa using q⟩
    | exact .inr q
def neM (K : PySem.W.Frag) : R2 := fun x y H Q => match x, y with
  | .int i, .int j => Q (.bl (!decide (i = j))) H
  | .str i, .str j => Q (.bl (!decide (i = j))) H
  | .bl i, .bl j => Q (.bl (!decide (i = j))) H
  | .non, .non => Q (.bl false) H
  | .non, .int _ => Q (.bl true) H
  | .int _, .non => Q (.bl true) H
  | .non, .str _ => Q (.bl true) H
  | .str _, .non => Q (.bl true) H
  | .non, .bl _ => Q (.bl true) H
  | .bl _, .non => Q (.bl true) H
  | .int _, .str _ => Q (.bl true) H
  | .str _, .int _ => Q (.bl true) H
  | .bl _, .str _ => Q (.bl true) H
  | .str _, .bl _ => Q (.bl true) H
  | x, y => rNeD K x y H Q
theorem op_neM (hu : X.A.units + 64 < cLine) : OpR X (compareOp .NotEq) (neM X.K) := opwk (OpR.or op_ne (op_neD hu)) fun x y H Q q => by
  unfold neM at q
  split at q
  all_goals first
    | exact .inl ⟨rfl, by simpa using q⟩
    | exact .inr q
/-- is, is not: None, True, False -/
def isV (x y : V) : Bool := match x, y with
  | .non, .non => true
  | .bl a, .bl b => a == b
  | _, _ => false
def litV (y : V) : Bool := match y with | .non => true | .bl _ => true | _ => false
def isM : R2 := fun x y H Q => match litV y with | true => Q (.bl (isV x y)) H | false => False
def notM : R2 := fun x y H Q => match litV y with | true => Q (.bl (!isV x y)) H | false => False
theorem lit_cases {y : V} (h : litV y = true) : y = .non ∨ ∃ b, y = .bl b := by
  cases y with
  | non => exact .inl rfl
  | bl b => exact .inr ⟨b, rfl⟩
  | _ => exact absurd (show false = true from h) (by decide)
theorem is_other {A : Around} {E : Value → Shared → Prop} {M : Model} {x : V} {v : Value} {b : Bool} {s : Shared} {Q : Value → Shared → Prop} (rx : RelV x v) (h : Q (.bool (isV x (.bl b))) s) : wpAny M A (compareOp .Is v (.bool b)) Q E s := by
  cases x with
  | bl a =>
    cases rx
    by_cases e : a = b
    · subst e; exact wpAny_is_self rfl (by simpa [isV] using h)
    · exact wpAny_is_other rfl (fun z => e (Value.bool.inj z)) (by rw [show isV (.bl a) (.bl b) = false from beq_eq_false_iff_ne.mpr e] at h; exact h)
  | non => cases rx; exact wpAny_is_other rfl (by intro z; cases z) h
  | int i => obtain ⟨t, rfl⟩ := rx; exact wpAny_is_other rfl (by intro z; cases z) h
  | str i => obtain ⟨t, rfl⟩ := rx; exact wpAny_is_other rfl (by intro z; cases z) h
  | byt i => obtain ⟨t, rfl⟩ := rx; exact wpAny_is_other rfl (by intro z; cases z) h
  | flt i => obtain ⟨t, rfl⟩ := rx; exact wpAny_is_other rfl (by intro z; cases z) h
  | ref a => cases rx; exact wpAny_is_other rfl (by intro z; cases z) h
  | ty n => cases rx; exact wpAny_is_other rfl (by intro z; cases z) h
theorem isnot_other {A : Around} {E : Value → Shared → Prop} {M : Model} {x : V} {v : Value} {b : Bool} {s : Shared} {Q : Value → Shared → Prop} (rx : RelV x v) (h : Q (.bool (!isV x (.bl b))) s) : wpAny M A (compareOp .IsNot v (.bool b)) Q E s := by
  cases x with
  | bl a =>
    cases rx
    by_cases e : a = b
    · subst e; exact wpAny_isNot_self rfl (by simpa [isV] using h)
    · exact wpAny_isNot_other rfl (fun z => e (Value.bool.inj z)) (by rw [show isV (.bl a) (.bl b) = false from beq_eq_false_iff_ne.mpr e] at h; exact h)
  | non => cases rx; exact wpAny_isNot_other rfl (by intro z; cases z) h
  | int i => obtain ⟨t, rfl⟩ := rx; exact wpAny_isNot_other rfl (by intro z; cases z) h
  | str i => obtain ⟨t, rfl⟩ := rx; exact wpAny_isNot_other rfl (by intro z; cases z) h
  | byt i => obtain ⟨t, rfl⟩ := rx; exact wpAny_isNot_other rfl (by intro z; cases z) h
  | flt i => obtain ⟨t, rfl⟩ := rx; exact wpAny_isNot_other rfl (by intro z; cases z) h
  | ref a => cases rx; exact wpAny_isNot_other rfl (by intro z; cases z) h
  | ty n => cases rx; exact wpAny_isNot_other rfl (by intro z; cases z) h
theorem isV_non (x : V) : isV x .non = decide (x = .non) := by cases x <;> rfl
theorem op_isM : OpR X (compareOp .Is) isM := by
  intro pins s σ H x y v u Q I rx ry q
  unfold isM at q
  split at q
  · rename_i e
    rcases lit_cases e with rfl | ⟨b, rfl⟩
    · exact op_isN pins s σ H x .non v u Q I rx ry ⟨rfl, by rw [← isV_non]; exact q⟩
    · cases ry
      exact is_other rx ⟨.bl _, H, I, rfl, q⟩
  · exact q.elim
theorem op_isNotM : OpR X (compareOp .IsNot) notM := by
  intro pins s σ H x y v u Q I rx ry q
  unfold notM at q
  split at q
  · rename_i e
    rcases lit_cases e with rfl | ⟨b, rfl⟩
    · exact op_notN pins s σ H x .non v u Q I rx ry ⟨rfl, by rw [← isV_non]; exact q⟩
    · cases ry
      exact isnot_other rx ⟨.bl _, H, I, rfl, q⟩
  · exact q.elim
/-- in: a list or a tuple of plain things; a sign in a text -/
def inM (K : PySem.W.Frag) (neg : Bool) : R2 := fun x y H Q => match y with
  | .str z => ∃ c : Nat, x = .str ⟨#[c]⟩ ∧ Q (.bl (if neg then !decide (c ∈ z.cps.toList) else decide (c ∈ z.cps.toList))) H
  | .ref p => ∃ xs, (SqL K H p xs ∨ SqT K H p xs) ∧ flatV x = true ∧ xs.all flatV = true ∧ Q (.bl (if neg then !inV x xs else inV x xs)) H
  | _ => False
theorem op_inM : OpR X (compareOp .In) (inM X.K false) := opwk (OpR.or op_in_sign op_in_seq) fun x y H Q q => by
  unfold inM at q
  split at q
  · obtain ⟨c, e, q⟩ := q
    exact .inl ⟨c, _, e, rfl, q⟩
  · obtain ⟨xs, h1, h2, h3, q⟩ := q
    exact .inr ⟨_, xs, rfl, h1, h2, h3, q⟩
  · exact q.elim
theorem op_notInM : OpR X (compareOp .NotIn) (inM X.K true) := opwk (OpR.or op_notIn_sign op_notIn_seq) fun x y H Q q => by
  unfold inM at q
  split at q
  · obtain ⟨c, e, q⟩ := q
    exact .inl ⟨c, _, e, rfl, q⟩
  · obtain ⟨xs, h1, h2, h3, q⟩ := q
    exact .inr ⟨_, xs, rfl, h1, h2, h3, q⟩
  · exact q.elim

/-! ### tests -/
variable {a b : Expr} {rest : List Expr} {ta tb : TE} {pos : Pos}
def tTs (t : TE) : TT := fun σ H Q => t σ H fun x H' => match x with | .bl k => Q k H' | _ => False
theorem pt_c {op : CmpOp} {r : R2} (ho : OpR X (compareOp op) r) (ha : PE X a ta) (hb : PE X b tb) (hm : behindInMarks op b = false := by first | exact nomark _ | rfl) : PT X (.Compare a [op] [b] pos) (tTs (tOp r ta tb)) := by
  refine ⟨fun pins s σ H Q I h => ?_⟩
  refine wpAny_isTrue_Compare1 (thn (ha.run pins s σ H _ I h) fun v s1 ⟨x, H1, I1, r1, q1⟩ => thn (hb.run pins s1 σ H1 _ I1 q1) fun u s2 ⟨y, H2, I2, r2, q2⟩ =>
    thn (ho pins s2 σ H2 x y v u _ I2 r1 r2 q2) fun c s3 ⟨z, H3, I3, r3, q3⟩ => ?_) hm
  cases z with
  | bl k => cases r3; exact wpAny_truthy_bool ⟨H3, I3, q3⟩
  | _ => exact (show False from q3).elim
theorem pe_c {op : CmpOp} {r : R2} (ho : OpR X (compareOp op) r) (ha : PE X a ta) (hb : PE X b tb) (hm : behindInMarks op b = false := by first | exact nomark _ | rfl) : PE X (.Compare a [op] [b] pos) (tOp r ta tb) := pe_cmpR ho ha hb hm
/-- any value's truth -/
def tTr (K : PySem.W.Frag) (t : TE) : TT := fun σ H Q => t σ H fun x H' => match x with
  | .bl k => Q k H'
  | .non => Q false H'
  | .int i => Q (i != 0) H'
  | .str y => y.length ≤ sizeLine ∧ Q ((y.length : Int) != 0) H'
  | .ref p => (∃ xs, SqL K H' p xs ∧ Q (!xs.isEmpty) H') ∨ (∃ xs, SqT K H' p xs ∧ Q (!xs.isEmpty) H') ∨ ∃ kvs, H' p = some (.dK kvs) ∧ Q (!kvs.isEmpty) H'
  | _ => False
theorem pt_tr (ha : PE X a ta) (he : ∀ whole, isTrue a X.env whole = (do let v ← whole; standAt a.pos; holding [v] (truthy v)) := by intro _; rfl) : PT X a (tTr X.K ta) := by
  refine ⟨fun pins s σ H Q I h => ?_⟩
  refine isTrue_plain (thn (ha.run pins s σ H _ I h) fun v s1 ⟨x, H1, I1, r1, q1⟩ => tru_ok pins s1 σ H1 x v Q I1 r1 ?_) (he _)
  cases x with
  | bl k => exact ⟨k, rfl, q1⟩
  | non => exact ⟨false, rfl, q1⟩
  | int i => exact ⟨_, rfl, q1⟩
  | str y => exact ⟨_, ⟨q1.1, rfl⟩, q1.2⟩
  | ref p =>
    rcases (show (∃ xs, SqL X.K H1 p xs ∧ Q (!xs.isEmpty) H1) ∨ (∃ xs, SqT X.K H1 p xs ∧ Q (!xs.isEmpty) H1) ∨ ∃ kvs, H1 p = some (.dK kvs) ∧ Q (!kvs.isEmpty) H1 from q1) with ⟨xs, h, q⟩ | ⟨xs, h, q⟩ | ⟨xs, h, q⟩
    · exact ⟨_, .inl ⟨xs, h, rfl⟩, q⟩
    · exact ⟨_, .inr (.inl ⟨xs, h, rfl⟩), q⟩
    · exact ⟨_, .inr (.inr ⟨xs, h, rfl⟩), q⟩
  | _ => exact (show False from q1).elim
def tAndM (ta tb : TE) : TE := fun σ H Q => ta σ H fun x H1 => match x with | .bl c => (if c = true then tb σ H1 Q else Q (.bl false) H1) | _ => False
def tOrM (ta tb : TE) : TE := fun σ H Q => ta σ H fun x H1 => match x with | .bl c => (if c = true then Q (.bl true) H1 else tb σ H1 Q) | _ => False
def tNotM (ta : TE) : TE := fun σ H Q => ta σ H fun x H1 => match x with | .bl c => Q (.bl (!c)) H1 | _ => False
theorem pe_andM (ha : PE X a ta) (hb : PE X (.BoolOp .And (b :: rest) pos) tb) : PE X (.BoolOp .And (a :: b :: rest) pos) (tAndM ta tb) := by
  refine ⟨fun pins s σ H Q I h => ?_⟩
  refine BoolOp_and (thn (ha.run pins s σ H _ I h) fun v s1 ⟨x, H1, I1, r1, q1⟩ => ?_)
  cases x with
  | bl c =>
    cases r1
    refine wpAny_truthy_bool ?_
    cases c with
    | true => exact hb.run pins s1 σ H1 Q I1 q1
    | false => exact ⟨.bl false, H1, I1, rfl, q1⟩
  | _ => exact (show False from q1).elim
theorem pe_orM (ha : PE X a ta) (hb : PE X (.BoolOp .Or (b :: rest) pos) tb) : PE X (.BoolOp .Or (a :: b :: rest) pos) (tOrM ta tb) := by
  refine ⟨fun pins s σ H Q I h => ?_⟩
  refine BoolOp_or (thn (ha.run pins s σ H _ I h) fun v s1 ⟨x, H1, I1, r1, q1⟩ => ?_)
  cases x with
  | bl c =>
    cases r1
    refine wpAny_truthy_bool ?_
    cases c with
    | false => exact hb.run pins s1 σ H1 Q I1 q1
    | true => exact ⟨.bl true, H1, I1, rfl, q1⟩
  | _ => exact (show False from q1).elim
theorem pe_notM (ha : PE X a ta) : PE X (.UnaryOp .Not a pos) (tNotM ta) := by
  refine ⟨fun pins s σ H Q I h => ?_⟩
  refine UnaryOp_ (thn (ha.run pins s σ H _ I h) fun v s1 ⟨x, H1, I1, r1, q1⟩ => ?_)
  cases x with
  | bl c => cases r1; exact not_of (wpAny_truthy_bool ⟨.bl (!c), H1, I1, rfl, q1⟩)
  | _ => exact (show False from q1).elim

/-! ### subscripts, slices, calls of built-ins -/
def ixM (K : PySem.W.Frag) : R2 := fun x y H Q => match x, y with
  | .str z, .int i => z.length ≤ sizeLine ∧ ∃ c, atI z.cps.toList i = some c ∧ Q (.str ⟨#[c]⟩) H
  | .ref p, .int i => ∃ xs, (SqL K H p xs ∨ SqT K H p xs) ∧ ∃ v, atI xs i = some v ∧ Q v H
  | _, _ => False
theorem ix_M : IxR X (ixM X.K) := ixwk ix_seq fun x y H Q q => by
  unfold ixM at q
  split at q
  · obtain ⟨h, c, e, q⟩ := q
    exact .inr (.inr ⟨_, _, c, rfl, rfl, h, e, q⟩)
  · obtain ⟨xs, h | h, v, e, q⟩ := q
    · exact .inl ⟨_, xs, _, v, rfl, rfl, h, e, q⟩
    · exact .inr (.inl ⟨_, xs, _, v, rfl, rfl, h, e, q⟩)
  · exact q.elim
theorem e_ix (ha : PE X a ta) (hb : PE X b tb) (hs : PlainIx b := by intro _ _; rfl) : PE X (.Subscript a b pos) (tOp (ixM X.K) ta tb) := pe_ix ix_M ha hb hs
def slM (K : PySem.W.Frag) : V → Option Int → Option Int → Hp → VK → Prop := fun x lo hi H Q => match x with
  | .str z => z.length ≤ sizeLine ∧ Q (.str (cutS z lo hi)) H
  | .ref p => (∃ xs, SqL K H p xs ∧ ∀ q, H q = none → Q (.ref q) (upd H q (.lst (cutV xs lo hi)))) ∨ rSlT K (.ref p) lo hi H Q
  | _ => False
theorem sl_M : SlR X (slM X.K) := slwk (SlR.or sl_str (SlR.or sl_list sl_tup)) fun x lo hi H Q q => by
  unfold slM at q
  split at q
  · exact .inl ⟨_, rfl, q.1, q.2⟩
  · rcases q with ⟨xs, h, q⟩ | q
    · exact .inr (.inl ⟨_, xs, rfl, h, q⟩)
    · exact .inr (.inr q)
  · exact q.elim
def intM : List V → Hp → VK → Prop := fun xs H Q => match xs with
  | [.int i] => Q (.int i) H
  | [.bl k] => Q (.int (if k then 1 else 0)) H
  | [.str a] => ∃ n, PySem.intText? a = some n ∧ a.length ≤ 640 ∧ Q (.int n) H
  | _ => False
theorem call_intM : CallR X (.type "int") intM := cwk (CallR.or call_int1 call_int_str) fun xs H Q q => by
  unfold intM at q
  split at q
  · exact .inl (.inl ⟨_, rfl, q⟩)
  · exact .inl (.inr ⟨_, rfl, q⟩)
  · obtain ⟨n, h1, h2, q⟩ := q
    exact .inr ⟨_, n, rfl, h1, h2, q⟩
  · exact q.elim
def lenM (K : PySem.W.Frag) : List V → Hp → VK → Prop := fun xs H Q => match xs with
  | [.str z] => z.length ≤ sizeLine ∧ Q (.int z.length) H
  | [.ref p] => (∃ xs, (SqL K H p xs ∨ SqT K H p xs) ∧ Q (.int xs.length) H) ∨ ∃ kvs, H p = some (.dK kvs) ∧ Q (.int kvs.length) H
  | _ => False
theorem call_lenM : CallR X (.builtin "len") (lenM X.K) := cwk (CallR.or call_len_str (CallR.or call_len_seq call_lenD)) fun xs H Q q => by
  unfold lenM at q
  split at q
  · exact .inl ⟨_, rfl, q.1, q.2⟩
  · rcases q with ⟨xs, h, q⟩ | ⟨kvs, h, q⟩
    · exact .inr (.inl ⟨_, xs, rfl, h, q⟩)
    · exact .inr (.inr ⟨_, kvs, rfl, h, q⟩)
  · exact q.elim

/-! ### the same, the written part named -/
theorem addK (K : PySem.W.Frag) (h : X.K = K := by rfl) : OpR X (binaryOp .Add) (addM K) := h ▸ op_addM
theorem eqK (K : PySem.W.Frag) (hu : X.A.units + 64 < cLine) (h : X.K = K := by rfl) : OpR X (compareOp .Eq) (eqM K) := h ▸ op_eqM hu
theorem neK (K : PySem.W.Frag) (hu : X.A.units + 64 < cLine) (h : X.K = K := by rfl) : OpR X (compareOp .NotEq) (neM K) := h ▸ op_neM hu
theorem inK (K : PySem.W.Frag) (h : X.K = K := by rfl) : OpR X (compareOp .In) (inM K false) := h ▸ op_inM
theorem notInK (K : PySem.W.Frag) (h : X.K = K := by rfl) : OpR X (compareOp .NotIn) (inM K true) := h ▸ op_notInM
theorem pt_t (K : PySem.W.Frag) (ha : PE X a ta) (he : ∀ whole, isTrue a X.env whole = (do let v ← whole; standAt a.pos; holding [v] (truthy v)) := by intro _; rfl) (h : X.K = K := by rfl) : PT X a (tTr K ta) := h ▸ pt_tr ha he
theorem e_x (K : PySem.W.Frag) (ha : PE X a ta) (hb : PE X b tb) (hs : PlainIx b := by intro _ _; rfl) (h : X.K = K := by rfl) : PE X (.Subscript a b pos) (tOp (ixM K) ta tb) := h ▸ e_ix ha hb hs
theorem slK (K : PySem.W.Frag) (h : X.K = K := by rfl) : SlR X (slM K) := h ▸ sl_M
theorem lenK (K : PySem.W.Frag) (h : X.K = K := by rfl) : CallR X (.builtin "len") (lenM K) := h ▸ call_lenM
theorem listK (K : PySem.W.Frag) (h : X.K = K := by rfl) : CallR X (.type "list") (fun xs H Q => ∃ p ys, xs = [.ref p] ∧ (SqL K H p ys ∨ SqT K H p ys) ∧ ∀ l, H l = none → Q (.ref l) (upd H l (.lst ys))) := h ▸ call_list_of
theorem tupleK (K : PySem.W.Frag) (h : X.K = K := by rfl) : CallR X (.type "tuple") (fun xs H Q => ∃ p ys, xs = [.ref p] ∧ ((SqL K H p ys ∧ ∀ l, H l = none → Q (.ref l) (upd H l (.tup ys))) ∨ (SqT K H p ys ∧ Q (.ref p) H))) := h ▸ call_tuple_of
theorem isiK (K : PySem.W.Frag) (h : X.K = K := by rfl) : CallR X (.builtin "isinstance") (rIsi K) := h ▸ call_isi
theorem allK (K : PySem.W.Frag) (hc : X.calm = true) (h : X.K = K := by rfl) : CallR X (.builtin "all") (rAll K) := h ▸ cr_all hc
theorem anyK (K : PySem.W.Frag) (hc : X.calm = true) (h : X.K = K := by rfl) : CallR X (.builtin "any") (rAny K) := h ▸ cr_any hc
theorem sortedK (K : PySem.W.Frag) (h : X.K = K := by rfl) : CallR X (.builtin "sorted") (rSorted K) := h ▸ cr_sorted
theorem sumK (K : PySem.W.Frag) (hc : X.calm = true) (h : X.K = K := by rfl) : CallR X (.builtin "sum") (rSum K) := h ▸ cr_sum hc

/-! ### calls of own defs -/
structure Cal (P : Program) (w : World) (K : PySem.W.Frag) (mg : Str → Option Value) (base : Heap) (CX : CXT) (k : Nat) (x : Str) (f : Addr) (fd : FuncData) (ps : List Str) (sp : Sp) : Prop where
  G : FnOk P w K mg base CX k f fd ps sp
  b : Binds K fd ps []
  kp : PySem.W.keepIn K (.ref f) = true
  m : mg x = some (.ref f)
end
end El

set_option Elab.async false
set_option linter.all false
set_option maxRecDepth 100000
set_option maxHeartbeats 4000000
/-! Own words: an own exception's first row super().__init__(e), the rest of its __init__ by the layer. -/
namespace El
open PySem PySem.Spec PyProof.Rows L2 NdefX
abbrev supRow (p0 p1 p2 p3 p4 : Pos) (e1 : Expr) : Stmt := .Expr (.Call (.Attribute (.Call (.Name "super" p0) [] [] p1) "__init__" p2) [e1] [] p3) p4
abbrev supNF (name qual : Str) (params : Arguments) (body : List Stmt) (scope : Scope) (cc cda : Addr) : NF := ⟨name, qual, params, body, scope, [("__class__", cc)], cda⟩

theorem inv_unpin {X : Cx} {pins : List (Addr × Obj)} {σ : L2.St} {H : Hp} {s : Shared} (I : Inv X pins σ H s) : Inv X [] σ H s := I.pins_of fun p hp => absurd hp (by simp)

theorem fn_super {P : Program} {w : World} {K : PySem.W.Frag} {mg : Str → Option Value} {base : Heap} {CX : CXT} {k : Nat} {f cc cda D : Addr} {name qual : Str} {params : Arguments} {scope : Scope} {doc pm ct oc ccl cl : Value} {od cdd cld : Option Addr} {osl ccs csl : Array (Option Value)} {vs0 : Array Value} {file : Str} {tf : Tok} {cdD : ClassData}
    {N ps : List Str} {sp : Sp} {e1 : Expr} {rest : List Stmt} {p0 p1 p2 p3 p4 : Pos} {ar : Arg}
    (lk : K.lookup f = some ⟨oc, od, .func (PySem.W.fnX name qual params (supRow p0 p1 p2 p3 p4 e1 :: rest) scope [("__class__", cc)] .none .none doc pm none (.ref cda) ct), osl⟩)
    (hcd : PySem.W.codeIn K (.ref cda) qual = true) (S : NScope N ps ["__class__"] scope)
    (hcode : K.lookup cda = some ⟨ccl, cdd, .fields vs0, ccs⟩) (hvs : vs0[2]? = some (.str file tf)) (hfile : ((P.main.file : Str) == file) = true)
    (hcell : K.lookup cc = some ⟨cl, cld, .cell (some (.ref D)), csl⟩) (hD : PySem.W.clsIn K D = some cdD) (hsuper : mg "super" = none)
    (hop : PySem.W.nsIn K PySem.cStatics "thirdparty.any" = some none)
    (hp : (params.posonlyargs ++ params.args).head? = some ar) (hps : ps[0]? = some ar.arg)
    (hks : scope.names.lookup ("super" : Str) = some .globalImplicit) (htop : (P.main.scope.names.lookup ("super" : Str)).isSome = false)
    (hboot : bootBuiltins "super" = some (.type "super"))
    (len : ∀ vs H Q E, sp vs H Q E → vs.length = ps.length)
    (hbody : ∀ (A : Around) (outer : List Env) (s : Shared) (H : Hp) (vs : List V) (Q : VK) (E : XK), Room k (A.deeper (envF (supNF name qual params (supRow p0 p1 p2 p3 p4 e1 :: rest) scope cc cda) f s.heap.objs.size)) → sp vs H Q E →
      ∃ (a C : Addr) (ta : TA) (t : TS), vs[0]? = some (.ref a) ∧ H a = some (exo a C none) ∧ OexC K C ∧ PySem.W.mroIn K C (.ref D) = some true ∧ PySem.W.ks_superIn K C D "__init__" = some (some (.builtin "ValueError.__init__")) ∧ PySem.W.subIn K (.ref C) (.type "ValueError") = some true ∧
        PA (ncx CX P w K mg base N (supNF name qual params (supRow p0 p1 p2 p3 p4 e1 :: rest) scope cc cda) f A outer s H E) [e1] ta ∧
        PSs (ncx CX P w K mg base N (supNF name qual params (supRow p0 p1 p2 p3 p4 e1 :: rest) scope cc cda) f A outer s H E) rest t ∧
        ta (startF N vs [none]) H fun ws H1 => H1 a = some (exo a C none) ∧ ws.length ≤ 1000 ∧ t { nx := fun _ H' => Q .non H', rt := Q } (startF N vs [none]) H1)
    (hst : ∀ env : Env, starEach [e1] env = (false, eval e1 env) :: starEach [] env) {pl : Env → Sem Bool}
    (he : ∀ env : Env, eval (.Call (.Attribute (.Call (.Name "super" p0) [] [] p1) "__init__" p2) [e1] [] p3) env = (do
      let ov ← attributeBase (.Call (.Name "super" p0) [] [] p1) "__init__" env (eval (.Call (.Name "super" p0) [] [] p1) env)
      standAt p2.atName
      let (f, first) ← holding [ov] (getMethod ov "__init__" (pl env))
      callWith p3 f first (backTo p3 (starEach [e1] env)) []))
    (hsw : ∀ env : Env, swapsWith (.Call (.Attribute (.Call (.Name "super" p0) [] [] p1) "__init__" p2) [e1] [] p3) none p4.line env = pure false) :
    FnOk P w K mg base CX (k + 1) f (PySem.W.fnX name qual params (supRow p0 p1 p2 p3 p4 e1 :: rest) scope [("__class__", cc)] .none .none doc pm none (.ref cda) ct) ps sp := by
  refine ⟨len, fun A outer s H args us vs Q E hr e0 hb r hsp => ?_⟩
  have hl := len _ _ _ _ hsp
  have KX : K.In s.heap := e0.mod.kin.keeps fun b o e => (e0.bs b o e).1
  have lim : s.heap.NoLimit := e0.mod.nolimit.keeps fun b o e => (e0.bs b o e).1
  have hkc : scope.names.lookup ("__class__" : Str) = some .free := S.frk _ (List.mem_singleton.mpr rfl)
  refine PySem.ks_codeAny_call_defAt (fd := PySem.W.fnX name qual params (supRow p0 p1 p2 p3 p4 e1 :: rest) scope [("__class__", cc)] .none .none doc pm none (.ref cda) ct) (body := supRow p0 p1 p2 p3 p4 e1 :: rest) (binds := ps.zip us) hr.depth (KX _ _ lk) rfl lim
    (PySem.W.codeRec_of KX hcd) rfl hb S.nocell (fun ⟨n, _⟩ hy => S.par n (List.of_mem_zip hy).1) (fun h₁ hns kp => ?_) S.co S.gen S.kind
  obtain ⟨a, C, ta, t, hv0, hexo, TC, hmro, hsup, hsubV, hPA, hPS, hq⟩ := hbody A outer s H vs Q E (hr.deeper _) hsp
  have bcc : base.get? cc = some ⟨cl, cld, .cell (some (.ref D)), csl⟩ := e0.mod.kin _ _ hcell
  have CC : CellsAt [(("__class__" : Str), cc)] ["__class__"] [none] s.heap H := by
    refine ⟨rfl, fun y c e => ?_, fun x y c e1 e2 => ?_, fun i y hi => ?_⟩
    · have : c = cc := by
        simp only [List.lookup] at e
        split at e
        · exact (Option.some.inj e).symm
        · cases e
      subst this
      exact ⟨(e0.bs _ _ bcc).2, _, _, KX _ _ hcell, rfl⟩
    · simp only [List.lookup] at e1 e2
      split at e1
      · rename_i h1
        split at e2
        · rename_i h2
          rw [beq_iff_eq] at h1 h2
          rw [h1, h2]
        · cases e2
      · cases e1
    · have : i = 0 ∧ y = "__class__" := by
        cases i with
        | zero => simp at hi; exact ⟨rfl, hi.symm⟩
        | succ i => simp at hi
      obtain ⟨rfl, rfl⟩ := this
      exact ⟨cc, by simp [List.lookup], fun v hv => by simp at hv⟩
  have I : Inv (ncx CX P w K mg base N (supNF name qual params (supRow p0 p1 p2 p3 p4 e1 :: rest) scope cc cda) f A outer s H E) [] (startF N vs [none]) H { s with heap := h₁, toks := s.toks + (ps.zip us).length } :=
    inv_startN (F := supNF name qual params (supRow p0 p1 p2 p3 p4 e1 :: rest) scope cc cda) S hr.hd e0 hl r CC hns kp
  have KX1 : K.In h₁ := fun b o e => kp b o (KX b o e)
  obtain ⟨oD, hD1, hD2⟩ : ∃ oD, h₁.get? D = some oD ∧ oD.data = .cls cdD := by
    unfold PySem.W.clsIn at hD
    split at hD
    · rename_i c d cd' sl ho
      cases hD
      exact ⟨_, KX1 _ _ ho, rfl⟩
    · cases hD
  have ndP : ps.Nodup := by
    have q := S.nd.sublist (List.take_sublist (ps.length + 1) N)
    rw [show N.take (ps.length + 1) = ps ++ [("__class__" : Str)] from S.pre] at q
    exact (List.nodup_append.mp q).1
  obtain ⟨u0, hu0, ru0⟩ := r.get hv0
  obtain rfl : u0 = Value.ref a := ru0
  obtain ⟨t1, hga⟩ := exo_at I.hok hexo
  have hint : interactive (envF (supNF name qual params (supRow p0 p1 p2 p3 p4 e1 :: rest) scope cc cda) f s.heap.objs.size) = false := by
    have hk := S.kind
    unfold interactive
    simp [Env.blockKind, hk]
  refine PySem.ks_wpAt_execs_cons (PySem.ks_wpAt_Expr_any (PySem.ks_wpAt_MethodCall (PySem.ks_wpAt_super_base (ar := ar) hks hkc (by decide +kernel) rfl (KX1 _ _ lk) rfl hp rfl (KX1 _ _ hcode) rfl hvs hfile htop ?_) (he _)) hint (hsw _))
  obtain ⟨mb, hb1, hb2⟩ := e0.mod.blt
  have kb : ∀ b o, base.get? b = some o → h₁.get? b = some o := fun b o e => kp b o (e0.bs b o e).1
  refine PySem.W.ks_loadName_global S.kind hks (Calls.loadGlobal_builtin (e0.mod.glob.keeps kb) hsuper (hb1.keeps kb) ((hb2 _ (by decide)).trans hboot) ⟨rfl, ?_⟩)
  refine wpAny_loadName_free S.kind hkc rfl ⟨_, KX1 _ _ hcell, rfl⟩ ?_
  refine wpAny_loadName_local S.kind (S.par _ (List.mem_of_getElem? hps)) hns (zip_look ndP hps hu0) ?_
  refine PySem.ks_wpAny_isType_cls hD1 hD2 ⟨rfl, ?_⟩
  refine PySem.ks_wpAny_call_super hD1 hD2 hga rfl (fun c e => by cases e) (PySem.W.looks_mroIn KX1 hmro) (fun h2 eso k2 => ?_)
  have I2 : Inv (ncx CX P w K mg base N (supNF name qual params (supRow p0 p1 p2 p3 p4 e1 :: rest) scope cc cda) f A outer s H E) [] (startF N vs [none]) H { s with heap := h2, toks := s.toks + (ps.zip us).length } := I.kept k2
  have KX2 : K.In h2 := fun b o e => k2 b o (KX1 b o e)
  cases hcC : PySem.W.clsIn K C with
  | none => unfold PySem.W.ks_superIn at hsup; rw [hcC] at hsup; cases hsup
  | some cd =>
  unfold PySem.W.ks_superIn at hsup
  rw [hcC] at hsup
  have hga2 := k2 _ _ hga
  have INS : PySem.W.InstAt h2 a { cls := .ref C, dict := none, data := .fields #[.ref t1, .none, .none, .none, .bool false, .none] } C none := ⟨hga2, rfl, rfl, trivial⟩
  have hI : PySem.W.Looks (model P w) h2 (isInstance (.ref a) (.type "ValueError")) true := INS.type.andThen (PySem.W.looks_subIn KX2 hsubV)
  refine PySem.W.kxs_getMethod PySem.W.kxs_ValueError eso (PySem.W.looks_opaque KX2 hop) (l₀ := cd.mro) (fun A Q E s k q => wpAny_bind ((PySem.W.looks_clsIn KX2 hcC) A _ E s k (wpAny_pure q))) rfl KX2 hsup hI (PySem.W.ks_ne KX2 INS hcC) (by decide +kernel) ?_
  have I3 : Inv (ncx CX P w K mg base N (supNF name qual params (supRow p0 p1 p2 p3 p4 e1 :: rest) scope cc cda) f A outer s H E) [] (startF N vs [none]) H { s with heap := h2.push (PySem.W.kxs_mw "ValueError.__init__" a), toks := s.toks + (ps.zip us).length + 1 } := I2.kept fun b o e => Heap.get?_push_of_some _ e
  have hu : (h2.push (PySem.W.kxs_mw "ValueError.__init__" a)).get? h2.objs.size = some (PySem.W.kxs_mw "ValueError.__init__" a) := Heap.get?_push_at rfl rfl
  have hfree : H h2.objs.size = none := I2.hok.fresh (Nat.le_refl _)
  have I4 : Inv (ncx CX P w K mg base N (supNF name qual params (supRow p0 p1 p2 p3 p4 e1 :: rest) scope cc cda) f A outer s H E) [(h2.objs.size, PySem.W.kxs_mw "ValueError.__init__" a)] (startF N vs [none]) H { s with heap := h2.push (PySem.W.kxs_mw "ValueError.__init__" a), toks := s.toks + (ps.zip us).length + 1 } :=
    I3.pins_of fun p hp => by
      obtain rfl := List.mem_singleton.mp hp
      exact ⟨hu, hfree, fun z => absurd I2.lt (by rw [← z]; exact Nat.lt_irrefl _), I2.nofs (Nat.le_refl _), fun v z => by cases z⟩
  show wpAny _ _ (callWith p3 (.ref h2.objs.size) [] (backTo p3 (starEach [e1] _)) []) _ _ _
  rw [hst]
  refine PySem.W.kxs_callWith (i := "ValueError.__init__") (x := a) rfl (Calls.evalArgs_plain ?_)
  have hrun := hPA.run p3 _ _ _ _ _ I4 hq
  rw [hst] at hrun
  refine thn hrun fun us' s4 ⟨ws, H1, I5, r5, hexo1, hws, hq1⟩ => ?_
  have hu5 : s4.heap.get? h2.objs.size = some (PySem.W.kxs_mw "ValueError.__init__" a) := (I5.pin (h2.objs.size, PySem.W.kxs_mw "ValueError.__init__" a) (List.mem_append_right _ (List.mem_singleton.mpr rfl))).1
  refine ⟨hu5, ?_⟩
  obtain ⟨nm, q9, N9, bs, bm, sn, sub, ab, col, dd, k0, k1, k2', k3, k5, hC, hbm⟩ := TC.cls
  obtain ⟨t2, hga5⟩ := exo_at I5.hok hexo1
  have hC5 := I5.kIn _ _ hC
  have hus : us'.length ≤ sizeLine := by
    rw [← Paired.length r5, sizeLine_eq]
    omega
  obtain ⟨h5, g5, d5, tk5, os5⟩ := s4
  show wpAny _ _ (call (.ref h2.objs.size) ([] ++ us')) _ _ _
  rw [List.nil_append]
  refine wpAny_call (codeAny_of_tree ?_)
  show wpAny _ _ (callAny (.ref h2.objs.size) ⟨us', []⟩) _ _ _
  simp only [callAny]
  refine wpAny_bind (wpAny_load hu5 ?_)
  simp only [PySem.W.kxs_mw, show (Value.type "method-wrapper" == Value.type "method" || Value.type "method-wrapper" == Value.type "builtin_function_or_method" || Value.type "method-wrapper" == Value.type "method-wrapper") = true by decide, if_true]
  refine PySem.W.KFB.if_so (by decide) ?_
  refine wpAny_bind (PySem.W.check_bound_init PySem.F.excBase_ValueError.toExcCallFacts hC5 hga5 rfl ?_)
  refine wpAny_bind (wpAny_pure (wpAny_pure ?_))
  refine ⟨plainId_quiet PySem.F.excBase_ValueError.init.plain _, codeAny_builtin PySem.F.excBase_ValueError.initEntry ?_⟩
  refine PySem.W.exc_init_tree (cls := .ref C) (t0 := t2) (dv := none) (c2 := .none) (c3 := .none) (b4 := .bool false) hga5 hus (fun h6 k6 e6 _ => ?_)
  have J := I5.write (t' := tk5) (x := a) (e := a) (o := exo a C none) (by rw [hexo1]; exact True.intro) (.inl rfl) k6 ⟨_, e6⟩ (exo_ok e6)
  have eu : upd H1 a (exo a C none) = H1 := by
    funext b
    by_cases hb : b = a
    · rw [hb, upd_same, hexo1]
    · rw [upd_ne hb]
  rw [eu] at J
  have J0 := inv_unpin J
  refine wpAt_of_wpAny ?_
  refine wpAny_mono (hPS.run [] _ _ H1 _ J0 hq1) (fun fl s' hs => ?_) fun e s' hs => hs
  have fin : ∀ {σ' : L2.St} {H' : Hp} {v : V} {u : Value}, Inv (ncx CX P w K mg base N (supNF name qual params (supRow p0 p1 p2 p3 p4 e1 :: rest) scope cc cda) f A outer s H E) [] σ' H' s' → L2.RelV v u → Q v H' → CE outer P w H s Q u s' :=
    fun {σ' H' v u} J rv q => ⟨v, H', J.os, J.bare, J.base, J.hok, rv, q⟩
  cases fl with
  | ret u =>
    obtain ⟨v, σ', H', J, rv, q⟩ := hs
    exact fin J rv q
  | next =>
    obtain ⟨σ', H', J, q⟩ := hs
    exact fin (v := V.non) (u := Value.none) J rfl q
  | brk =>
    obtain ⟨_, _, _, q⟩ := hs
    exact False.elim q
  | cont =>
    obtain ⟨_, _, _, q⟩ := hs
    exact False.elim q
end El

set_option Elab.async false
set_option linter.all false
set_option maxRecDepth 100000
set_option maxHeartbeats 4000000
/-! Own words: what the written part says of an own exception class, isinstance of what an except clause holds. -/
namespace El
open PySem PySem.Spec PyProof.Rows L2 NdefX
/-- isinstance(e, c), e the exception that the suite holds, with a dict -/
def rIsX (K : PySem.W.Frag) (cls : Value) (d : Option Addr) (a : Addr) : List V → Hp → VK → Prop := fun xs H Q => ∃ (D dd : Addr) (fs : List (Str × V)) (c : V) (cv : Value) (b : Bool), xs = [.ref a, c] ∧ cls = .ref D ∧ d = some dd ∧ H dd = some (.xd fs) ∧ ExcC K D ∧ (∀ u, RelV c u → u = cv) ∧ PySem.W.kitOne K (.ref D) cv = some b ∧ Q (.bl b) H
theorem call_isX {X : Cx} {a : Addr} {oe : Obj} {cls : Value} {d : Option Addr} {pn : List (Addr × Obj)} (hz : Zc cls d oe) (hf : ∃ vs, oe.data = .fields vs) : CallR (X.suite a ((a, oe) :: pn)) (.builtin "isinstance") (rIsX X.K cls d a) := by
  intro pins s σ H xs us Q I r h
  obtain ⟨D, dd, fs, c, cv, b, rfl, rfl, rfl, ea, C, hcv, e, q⟩ := h
  cases r with
  | cons rx rr =>
    cases rr with
    | cons rt rr =>
      cases rr
      cases rx
      have ec := hcv _ rt
      subst ec
      obtain ⟨hget, _⟩ := I.pin (a, oe) (List.mem_append.mpr (.inl List.mem_cons_self))
      obtain ⟨vs, hv⟩ := hf
      have hx : ObjOk X.prog X.w H s.heap dd (.xd fs) := I.hok dd _ ea
      obtain ⟨mA, hns, hr⟩ := hx
      obtain ⟨od, ho, hl⟩ := lookIn_ns hns
      have J : PySem.W.InstAt s.heap a oe D (some od) := ⟨hget, hz.1, by unfold PySem.W.notCls; rw [hv] <;> rfl, by rw [hz.2]; exact ho⟩
      obtain ⟨cdD, hcD, _⟩ := PySem.W.any_some C.hd
      exact PySem.W.kia_one (PySem.W.kitx_exc (by rw [hcD]; rfl) C.hg C.hk C.hs C.ha C.hn C.ht C.hm) I.kIn J e (fun z => nomatch z) fun tk => ⟨.bl b, H, I.kept (t' := tk) fun _ _ z => z, rfl, q⟩
/-- an own exception class with its own __init__ -/
structure ExK (K : PySem.W.Frag) (C fI : Addr) (fields : List Str) : Prop where
  oex : OexC K C
  sup : PySem.W.ks_superIn K C C "__init__" = some (some (.builtin "ValueError.__init__"))
  subV : PySem.W.subIn K (.ref C) (.type "ValueError") = some true
  mro : PySem.W.mroIn K C (.ref C) = some true
  iC : PySem.W.findIn K (.ref C) "__init__" = some (some (.ref fI))
  tI : PySem.W.typeIn K (.ref fI) = some (.type "function")
  no : ∀ f ∈ fields, PySem.W.findIn K (.ref C) f = some none
  xf : XfC K C
  is : ExcC K C
/-- what a suite that catches it must know -/
structure ExV (K : PySem.W.Frag) (C : Addr) (fields : List Str) : Prop where
  no : ∀ f ∈ fields, PySem.W.findIn K (.ref C) f = some none
  xf : XfC K C
  is : ExcC K C
/-- the i-th def of the class body -/
def mthS (s : Stmt) (i : Nat) : Stmt := match s with
  | .ClassDef _ _ _ b _ _ _ _ _ _ _ => b.getD i (.Pass ⟨0, 0, 0, 0⟩)
  | _ => .Pass ⟨0, 0, 0, 0⟩
/-- the same, from what the written part answers -/
theorem exk_mk {K : PySem.W.Frag} {C fI N : Addr} {fields : List Str} {nm q : Str} {bs bm : List Value} {sn : List Str} {sub : List Value} {ab : Bool} {col : Option Bool} {dd : Option Addr} {k0 k1 k2 k3 k5 : Option Value}
    (cls : K.lookup C = some (excClassObj nm q C N bs bm true sn sub ab col dd k0 k1 k2 k3 k5 "ValueError.__new__")) (ref : PySem.HandSPX.refsVE bm = true)
    (sa : PySem.W.findIn K (.ref C) "__setattr__" = some (some (.builtin "object.__setattr__"))) (exC : PySem.W.subIn K (.ref C) (.type "BaseException") = some true) (tyC : PySem.W.typeIn K (.ref C) = some (.type "type")) (kC : PySem.W.keepIn K (.ref C) = true)
    (sup : PySem.W.ks_superIn K C C "__init__" = some (some (.builtin "ValueError.__init__"))) (subV : PySem.W.subIn K (.ref C) (.type "ValueError") = some true) (mro : PySem.W.mroIn K C (.ref C) = some true)
    (iC : PySem.W.findIn K (.ref C) "__init__" = some (some (.ref fI))) (tI : PySem.W.typeIn K (.ref fI) = some (.type "function")) (no : ∀ f ∈ fields, PySem.W.findIn K (.ref C) f = some none)
    (ga : PySem.W.findIn K (.ref C) "__getattribute__" = some (some (.builtin "BaseException.__getattribute__"))) (gg : PySem.W.findIn K (.ref C) "__getattr__" = some none) (hd : PySem.W.hasDictIn K C = true)
    (hcl : PySem.W.findIn K (.ref C) "__class__" = some (some (.builtin "object.__class__"))) (hn : PySem.W.specialIn K (.builtin "object.__class__") "__get__" = some (some (.builtin "getset_descriptor.__get__"))) (ht : PySem.W.takesIn K (.builtin "object.__class__") = some true) (hm : PySem.W.mroIn K C (.type "object") = some true) : ExK K C fI fields :=
  ⟨⟨⟨nm, q, N, bs, bm, sn, sub, ab, col, dd, k0, k1, k2, k3, k5, cls, ref⟩, sa, exC, tyC, kC⟩, sup, subV, mro, iC, tI, no, ⟨ga, gg, exC, hd⟩, ⟨ga, gg, exC, hd, hcl, hn, ht, hm⟩⟩

/-! ### an own exception's __init__, by what it keeps -/
def spE (C : Addr) (ok : List V → Prop) (fs : List V → List (Str × V)) : Sp := fun vs H Q _ => ∃ (a : Addr) (ws : List V), vs = .ref a :: ws ∧ ok ws ∧ H a = some (exo a C none) ∧
  ∀ (dx : Addr) (H' : Hp), H dx = none → dx ≠ a → H' a = some (exo a C (some dx)) → H' dx = some (exd dx (fs ws)) → (∀ b, b ≠ a → b ≠ dx → H' b = H b) → Q .non H'
theorem mk_spE {C : Addr} {ok : List V → Prop} {fs : List V → List (Str × V)} {vs : List V} {H1 : Hp} {Q : XK} (hl : vs.length ≤ 1000) (ho : ok vs) (hq : ∀ d, H1 d = none → Q (.ref C) (some d) (upd H1 d (.xd (fs vs)))) :
    vs.length ≤ 1000 ∧ ∀ a, H1 a = none → spE C ok fs (.ref a :: (vs ++ [])) (upd H1 a (exo a C none))
      (fun v H2 => v = .non ∧ ∃ (d : Addr) (fs : List (Str × V)), H2 a = some (exo a C (some d)) ∧ H2 d = some (exd d fs) ∧ H1 d = none ∧ Q (.ref C) (some d) (upd (del H2 a) d (.xd fs))) (fun _ _ _ => False) := by
  refine ⟨hl, fun a na => ⟨a, vs, by rw [List.append_nil], ho, upd_same, fun dx H' n ne e1 e2 hh => ⟨rfl, dx, fs vs, e1, e2, ?_, ?_⟩⟩⟩
  · rw [upd_ne ne] at n
    exact n
  · have nd : H1 dx = none := by rw [upd_ne ne] at n; exact n
    have e : upd (del H' a) dx (.xd (fs vs)) = upd H1 dx (.xd (fs vs)) := by
      funext b
      by_cases hb : b = dx
      · rw [hb, upd_same, upd_same]
      · rw [upd_ne hb, upd_ne hb]
        by_cases ha : b = a
        · rw [ha, del_same, na]
        · rw [del_ne ha, hh b ha hb, upd_ne ha]
    rw [e]
    exact hq dx nd
/-- the class, its __init__, ready for a raise -/
structure CalE (P : Program) (w : World) (K : PySem.W.Frag) (mg : Str → Option Value) (base : Heap) (k : Nat) (x : Str) (C f : Addr) (fd : FuncData) (ps : List Str) (ok : List V → Prop) (fs : List V → List (Str × V)) (fields : List Str) : Prop where
  G : FnOk P w K mg base CX0 k f fd ps (spE C ok fs)
  b : Binds K fd ps []
  X : ExK K C f fields
  m : mg x = some (.ref C)
/-- one store, the dict being new -/
theorem ost1 {a C : Addr} {H : Hp} {f : Str} {y : V} {Q : Hp → Prop} (ea : H a = some (exo a C none)) (q : ∀ dx H', H dx = none → dx ≠ a → H' a = some (exo a C (some dx)) → H' dx = some (exd dx [(f, y)]) → (∀ b, b ≠ a → b ≠ dx → H' b = H b) → Q H') :
    ∀ dx, H dx = none → dx ≠ a → Q (upd (upd H dx (exd dx [(f, y)])) a (exo a C (some dx))) := fun dx n ne =>
  q dx _ n ne upd_same (by rw [upd_ne ne, upd_same]) fun b h1 h2 => by rw [upd_ne h1, upd_ne h2]
end El

set_option Elab.async false
set_option linter.all false
set_option maxRecDepth 100000
/-! Own words: a text times an int, the text of an int. -/
namespace El
open PySem PySem.Spec PyProof.Rows L2
def repS (z : Str) (k : Int) : Str := if k < 1 then Str.empty else if (k == 1 || z.length == 0) = true then z else ⟨(List.replicate k.toNat z.cps).foldl (· ++ ·) #[]⟩
theorem foldl_cps : ∀ (n : Nat) (a b : Array Nat), ((List.replicate n b).foldl (· ++ ·) a).toList = a.toList ++ (List.replicate n b.toList).flatten
  | 0, a, b => by simp
  | n + 1, a, b => by
    rw [List.replicate_succ, List.foldl_cons, foldl_cps n, Array.toList_append, List.replicate_succ, List.flatten_cons, List.append_assoc]
theorem repS_cps (z : Str) (k : Int) : (repS z k).cps.toList = (List.replicate k.toNat z.cps.toList).flatten := by
  unfold repS
  split
  · rename_i h
    rw [show k.toNat = 0 by omega]
    rfl
  · split
    · rename_i h1 h
      rw [Bool.or_eq_true, beq_iff_eq, beq_iff_eq] at h
      rcases h with h | h
      · subst h
        simp
      · have : z.cps.toList = [] := List.eq_nil_of_length_eq_zero (by rw [Array.length_toList]; exact h)
        rw [this]
        simp
    · rw [foldl_cps]
      rfl
theorem repS1 {c : Nat} {k : Int} : (repS ⟨#[c]⟩ k).cps.toList = List.replicate k.toNat c := by
  rw [repS_cps]
  simp
theorem op_mulS {X : Cx} : OpR X (binaryOp .Mult) (fun x y H Q => ∃ (z : Str) (k : Int), x = .str z ∧ y = .int k ∧ k ≤ 1000 ∧ -1000 ≤ k ∧ z.length ≤ 1000 ∧ Q (.str (repS z k)) H) := by
  intro pins s σ H x y v u Q I rx ry h
  obtain ⟨z, k, rfl, rfl, h1, h2, h3, q⟩ := h
  obtain ⟨t, rfl⟩ := rx
  obtain ⟨t', rfl⟩ := ry
  have e : (2 : Int) ^ 63 = 9223372036854775808 := by decide
  refine PySem.P.mul_str ?_ (fun n1 n2 => ?_) (fun n1 n2 => ?_) ?_
  · rw [e, decide_eq_false (by omega), decide_eq_false (by omega)]
    rfl
  · rw [e]
    have : ((9223372036854775808 : Int) - 1) / 1000 ≤ (9223372036854775808 - 1) / k := by
      refine Int.le_ediv_of_mul_le (by omega) ?_
      have : (9223372036854775808 - 1) / 1000 * k ≤ (9223372036854775808 - 1) / 1000 * 1000 := Int.mul_le_mul_of_nonneg_left h1 (by decide)
      refine Int.le_trans this (by decide)
    have : (1000 : Int) ≤ (9223372036854775808 - 1) / 1000 := by decide
    omega
  · have : z.length * k.toNat ≤ 1000 * 1000 := Nat.mul_le_mul h3 (by omega)
    show decide _ = false
    refine decide_eq_false ?_
    rw [sizeLine_eq]
    omega
  · unfold repS at q
    split
    · rename_i c
      rw [if_pos c] at q
      exact ⟨by decide, .str _, H, I.tok _, ⟨_, rfl⟩, q⟩
    · rename_i c
      rw [if_neg c] at q
      split
      · rename_i c2
        rw [if_pos c2] at q
        exact ⟨.str _, H, I, ⟨_, rfl⟩, q⟩
      · rename_i c2
        rw [if_neg c2] at q
        refine ⟨?_, .str _, H, I.tok _, ⟨_, rfl⟩, q⟩
        have e2 := foldl_cps k.toNat #[] z.cps
        have e3 : ((List.replicate k.toNat z.cps).foldl (· ++ ·) #[]).size = k.toNat * z.length := by
          rw [← Array.length_toList, e2, List.length_append]
          simp
          rfl
        show ((List.replicate k.toNat z.cps).foldl (· ++ ·) #[]).size ≤ sizeLine
        rw [e3, sizeLine_eq]
        have : k.toNat * z.length ≤ 1000 * 1000 := Nat.mul_le_mul (by omega) h3
        omega
/-- times, of texts too -/
def mulSM : R2 := fun x y H Q => match x, y with
  | .str z, .int k => k ≤ 1000 ∧ -1000 ≤ k ∧ z.length ≤ 1000 ∧ Q (.str (repS z k)) H
  | _, _ => mulM x y H Q
theorem op_mulSM {X : Cx} : OpR X (binaryOp .Mult) mulSM := opwk (OpR.or op_mulS op_mulM) fun x y H Q q => by
  unfold mulSM at q
  split at q
  · exact .inl ⟨_, _, rfl, rfl, q⟩
  · exact .inr q
/-- the signs of a number's text -/
theorem int_digits {i : Int} (h : 0 ≤ i) : ∀ c ∈ ((toString i : String) : Str).cps.toList, 48 ≤ c ∧ c ≤ 57 := by
  intro c hm
  by_cases hk : c ≠ 45 ∧ (c < 48 ∨ 57 < c)
  · exact absurd hm (int_text_free' c hk i)
  · by_cases h45 : c = 45
    · exfalso
      subst h45
      obtain ⟨n, rfl⟩ := Int.eq_ofNat_of_zero_le h
      rw [signs_ofString] at hm
      obtain ⟨ch, hc, e⟩ := List.mem_map.mp hm
      have hd : ch.isDigit = true := by
        have : ch ∈ (Nat.repr n).toList := hc
        exact Nat.isDigit_of_mem_toDigits (b := 10) (n := n) (by decide) (by decide) (by simpa [Nat.repr] using this)
      have := digit_range hd
      omega
    · omega
theorem int_text_ne (i : Int) : ((toString i : String) : Str).cps.toList ≠ [] := by
  rw [signs_ofString]
  intro h
  have h := List.map_eq_nil_iff.mp h
  have nn : ∀ n : Nat, (Nat.repr n).toList ≠ [] := fun n e => by
    have : Nat.toDigits 10 n = [] := by simpa [Nat.repr] using e
    exact Nat.toDigits_ne_nil this
  cases i with
  | ofNat n => exact nn n h
  | negSucc n =>
    have : ("-" ++ Nat.repr (n + 1)).toList = [] := h
    simp at this
end El

set_option Elab.async false
set_option linter.all false
set_option maxRecDepth 100000
set_option maxHeartbeats 4000000
/-! Own words: operators of own classes, static methods. -/
namespace El
open PySem PySem.Spec PyProof.Rows L2
theorem cmpBack_of {X : Cx} {pins : List (Addr × Obj)} {σ : L2.St} {Q : VK} {u : Value} {s' : Shared} (h : EP X pins σ Q u s') : PySem.W.CmpBack (EP X pins σ Q) u s' := by
  obtain ⟨v, H', I, r, q⟩ := id h
  cases v with
  | non => cases (show u = Value.none from r); exact h
  | bl b => cases (show u = Value.bool b from r); exact h
  | int i => obtain ⟨t, e⟩ := (show ∃ t, u = Value.int i t from r); subst e; exact h
  | str i => obtain ⟨t, e⟩ := (show ∃ t, u = Value.str i t from r); subst e; exact h
  | byt i => obtain ⟨t, e⟩ := (show ∃ t, u = Value.bytes i t from r); subst e; exact h
  | flt i => obtain ⟨t, e⟩ := (show ∃ t, u = Value.float i t from r); subst e; exact h
  | ref a => cases (show u = Value.ref a from r); exact h
  | ty n => cases (show u = Value.type n from r); exact h
/-- an own class's method for an operator -/
structure OpC (K : PySem.W.Frag) (C f : Addr) (op : Operator) : Prop where
  sf : PySem.W.selfFirst K C = true
  at_ : PySem.W.findIn K (.ref C) (PySem.dunder op.info.2) = some (some (.ref f))
  fn : PySem.W.isFn K (.ref f) = true
/-- .. with a value of the built-in type T on the right -/
structure OpT (K : PySem.W.Frag) (C f : Addr) (op : Operator) (T : String) : Prop where
  c : OpC K C f op
  hr : ∃ rc, PySem.W.findIn K (.ref C) (PySem.dunderR op.info.2) = some rc ∧ (rc = none ∨ ∃ g : Addr, rc = some (.ref g))
  h1 : ∃ fo, PySem.W.findIn K (.type T) (PySem.dunder op.info.2) = some fo
  h2 : ∃ ro, PySem.W.findIn K (.type T) (PySem.dunderR op.info.2) = some ro
  sub : PySem.W.subIn K (.type T) (.ref C) = some false
structure InvC (K : PySem.W.Frag) (C f : Addr) : Prop where
  at_ : PySem.W.findIn K (.ref C) "__invert__" = some (some (.ref f))
  fn : PySem.W.isFn K (.ref f) = true
section
variable {X : Cx} {CX : CXT} {k : Nat} {C f : Addr} {fd : FuncData} {ps : List Str} {sp : Sp} {E : XK} {op : Operator}
/-- a op b, both of the class at C -/
def rOwn (C : Addr) (sp : Sp) (E : XK) : R2 := fun x y H Q => ∃ a b dx fs dy gs, x = .ref a ∧ y = .ref b ∧ H a = some (.ins C dx fs) ∧ H b = some (.ins C dy gs) ∧ sp [.ref a, .ref b] H Q E
theorem op_own (c : OpC X.K C f op) (F : FnOk X.prog X.w X.K X.mg X.base CX k f fd ps sp) (hr : Room k X.A) (hb : Binds X.K fd ps []) (hx : Passes CX X E) : OpR X (binaryOp op) (rOwn C sp E) := by
  intro pins s σ H x y v u Q I rx ry h
  obtain ⟨a, b, dx, fs, dy, gs, rfl, rfl, ea, eb, q⟩ := h
  obtain rfl : v = Value.ref a := rx
  obtain rfl : u = Value.ref b := ry
  obtain ⟨m, fr⟩ := I.fr
  obtain ⟨mA, O, _⟩ := ins_get I.hok ea
  obtain ⟨od, J, _⟩ := O.look
  obtain ⟨mB, O2, _⟩ := ins_get I.hok eb
  obtain ⟨od2, J2, _⟩ := O2.look
  refine PySem.W.binop_K fr I.ok.mod.kin J J2.type c.sf c.at_ c.fn ?_
  refine wpAny_mono (run_fn (us := [.ref a, .ref b]) (vs := [.ref a, .ref b]) (ds := []) (dvs := []) F hr hb .nil hx I (.cons rfl (.cons rfl .nil)) q) (fun u' s' h' => cmpBack_of h') fun _ _ z => z
/-- a op n, n an int -/
def rOwnI (C : Addr) (sp : Sp) (E : XK) : R2 := fun x y H Q => ∃ a dx fs i, x = .ref a ∧ y = .int i ∧ H a = some (.ins C dx fs) ∧ sp [.ref a, .int i] H Q E
theorem op_ownI (c : OpT X.K C f op "int") (F : FnOk X.prog X.w X.K X.mg X.base CX k f fd ps sp) (hr : Room k X.A) (hb : Binds X.K fd ps []) (hx : Passes CX X E) : OpR X (binaryOp op) (rOwnI C sp E) := by
  intro pins s σ H x y v u Q I rx ry h
  obtain ⟨a, dx, fs, i, rfl, rfl, ea, q⟩ := h
  obtain rfl : v = Value.ref a := rx
  obtain ⟨t, rfl⟩ := ry
  obtain ⟨m, fr⟩ := I.fr
  obtain ⟨mA, O, _⟩ := ins_get I.hok ea
  obtain ⟨od, J, _⟩ := O.look
  obtain ⟨rc, hr1, hr2⟩ := c.hr
  obtain ⟨fo, h1⟩ := c.h1
  obtain ⟨ro, h2⟩ := c.h2
  refine PySem.W.ksp_binT fr I.ok.mod.kin J (T := "int") rfl c.c.sf c.c.at_ c.c.fn hr1 hr2 h1 h2 c.sub ?_
  refine wpAny_mono (run_fn (us := [.ref a, .int i t]) (vs := [.ref a, .int i]) (ds := []) (dvs := []) F hr hb .nil hx I (.cons rfl (.cons ⟨t, rfl⟩ .nil)) q) (fun u' s' h' => cmpBack_of h') fun _ _ z => z
/-- ~a -/
theorem un_own (c : InvC X.K C f) (F : FnOk X.prog X.w X.K X.mg X.base CX k f fd ps sp) (hr : Room k X.A) (hb : Binds X.K fd ps []) (hx : Passes CX X E) : UnR X (unaryOp .Invert) (fun x H Q => ∃ a dx fs, x = .ref a ∧ H a = some (.ins C dx fs) ∧ sp [.ref a] H Q E) := by
  intro pins s σ H x v Q I rx h
  obtain ⟨a, dx, fs, rfl, ea, q⟩ := h
  obtain rfl : v = Value.ref a := rx
  obtain ⟨m, fr⟩ := I.fr
  obtain ⟨mA, O, _⟩ := ins_get I.hok ea
  obtain ⟨od, J, _⟩ := O.look
  exact PySem.W.ksp_inv fr I.ok.mod.kin J c.at_ c.fn (run_fn (us := [.ref a]) (vs := [.ref a]) (ds := []) (dvs := []) F hr hb .nil hx I (.cons rfl .nil) q)
end

section
variable {X : Cx} {CX : CXT} {k : Nat} {C f : Addr} {fd : FuncData} {ps : List Str} {sp : Sp} {E : L2.St → XK} {op : Operator} {a b : Expr} {ta tb : TE} {pos : Pos}
/-- .. what it lets out being taken where it stands -/
def tOwnS (C : Addr) (sp : Sp) (E : L2.St → XK) (ta tb : TE) : TE := fun σ H Q => ta σ H fun x H1 => tb σ H1 fun y H2 => ∃ a b dx fs dy gs, x = .ref a ∧ y = .ref b ∧ H2 a = some (.ins C dx fs) ∧ H2 b = some (.ins C dy gs) ∧ sp [.ref a, .ref b] H2 Q (E σ)
theorem pe_bopS (c : OpC X.K C f op) (F : FnOk X.prog X.w X.K X.mg X.base CX k f fd ps sp) (hr : Room k X.A) (hb : Binds X.K fd ps []) (hx : ∀ σ, PassesAt CX X σ (E σ)) (ha : PE X a ta) (hb2 : PE X b tb) : PE X (.BinOp a op b pos) (tOwnS C sp E ta tb) := by
  refine ⟨fun pins s σ H Q I h => ?_⟩
  refine wpAny_BinOp (thn (ha.run pins s σ H _ I h) fun v s1 ⟨x, H1, I1, rx, q1⟩ => thn (hb2.run pins s1 σ H1 _ I1 q1) fun u s2 ⟨y, H2, I2, ry, a, b, dx, fs, dy, gs, ex, ey, ea, eb, q⟩ => ?_)
  subst ex ey
  obtain rfl : v = Value.ref a := rx
  obtain rfl : u = Value.ref b := ry
  obtain ⟨m, fr⟩ := I2.fr
  obtain ⟨mA, O, _⟩ := ins_get I2.hok ea
  obtain ⟨od, J, _⟩ := O.look
  obtain ⟨mB, O2, _⟩ := ins_get I2.hok eb
  obtain ⟨od2, J2, _⟩ := O2.look
  refine PySem.W.binop_K fr I2.ok.mod.kin J J2.type c.sf c.at_ c.fn ?_
  refine wpAny_mono (run_fnS (us := [.ref a, .ref b]) (vs := [.ref a, .ref b]) F hr hb (hx σ) I2 (.cons rfl (.cons rfl .nil)) q) (fun u' s' h' => cmpBack_of h') fun _ _ z => z
end

/-! ### static methods, by the class's name -/
structure SMet (K : PySem.W.Frag) (C : Addr) (mc : Value) (m : Str) (p g : Addr) : Prop where
  at_ : PySem.W.findCls K (.ref C) mc m = some (.get (.builtin "staticmethod.__get__") (.ref p) .none (.ref C))
  rc : ∃ rest, PySem.W.recIn K p "staticmethod" = some (.ref g :: rest)
  kp : PySem.W.keepIn K (.ref g) = true
section
variable {X : Cx} {CX : CXT} {k : Nat} {C p g : Addr} {mc : Value} {fd : FuncData} {ps : List Str} {sp : Sp} {E : XK} {o e : Expr} {es : List Expr} {m : Str} {pos apos : Pos} {ta : TE} {t : TA} {pl : Sem Bool}
def tSM (C : Addr) (sp : Sp) (E : XK) (ta : TE) (t : TA) : TE := fun σ H Q => ta σ H fun x H1 => x = .ref C ∧ t σ H1 fun vs H2 => sp vs H2 Q E
theorem getsm_ok {pins : List (Addr × Obj)} {σ : L2.St} {H : Hp} {s : Shared} {A : Around} {E : Value → Shared → Prop} {Q : Value × List Value → Shared → Prop} (I : Inv X pins σ H s) (r : ClX.CRead X.K C mc) (c : SMet X.K C mc m p g)
    (h : ∀ s', Inv X pins σ H s' → Q (.ref g, []) s') : wpAny (model X.prog X.w) A (getMethod (.ref C) m pl) Q E s := by
  obtain ⟨rest, hp⟩ := c.rc
  refine PySem.W.method_cls I.kIn r.ga ?_
  refine PySem.W.cls_bind I.kIn r.rd c.at_ ?_
  exact wpAny_call (PySem.W.sm_get (s := { s with toks := s.toks + 1 }) I.kIn hp (PySem.W.handed_on rfl (h _ (I.tok _))))
theorem pe_smeth (he : PE X o ta) (r : ClX.CRead X.K C mc) (c : SMet X.K C mc m p g) (F : FnOk X.prog X.w X.K X.mg X.base CX k g fd ps sp) (hr : Room k X.A) (hb : Binds X.K fd ps []) (hx : Passes CX X E) (ha : PA X (e :: es) t)
    (hst : starEach (e :: es) X.env = (false, eval e X.env) :: starEach es X.env := by rfl) (hpl : (backTo pos (starEach es X.env)).any (·.1) = false := by rfl)
    (ht : eval (.Call (.Attribute o m apos) (e :: es) [] pos) X.env = (do
      let ov ← eval o X.env
      standAt apos.atName
      let (f, first) ← holding [ov] (getMethod ov m pl)
      callWith pos f first (backTo pos (starEach (e :: es) X.env)) (backToKw pos (keywordEach [] X.env))) := by rfl) :
    PE X (.Call (.Attribute o m apos) (e :: es) [] pos) (tSM C sp E ta t) := by
  refine ⟨fun pins s σ H Q I h => ?_⟩
  refine PySem.W.methodCall_KW (pl := pl) (thn (he.run pins s σ H _ I h) fun u s1 ⟨x, H1, I1, rx, ex, q⟩ => ?_) ht
  subst ex
  obtain rfl : u = Value.ref C := rx
  refine getsm_ok I1 r c fun s2 I2 => ?_
  refine PySem.W.callWith_K (h₀ := X.base) I2.ok.mod.kin c.kp (thn (ha.run pos pins s2 σ H1 _ I2 q) fun us s3 ⟨vs, H2, I3, rv, q2⟩ => ⟨I3.kIn, ?_⟩) hst hpl
  have hl : sp (vs ++ []) H2 Q E := by rw [List.append_nil]; exact q2
  exact run_fn (ds := []) (dvs := []) F hr hb .nil hx I3 rv hl
theorem pe_smeth0 (he : PE X o ta) (r : ClX.CRead X.K C mc) (c : SMet X.K C mc m p g) (F : FnOk X.prog X.w X.K X.mg X.base CX k g fd ps sp) (hr : Room k X.A) (hb : Binds X.K fd ps []) (hx : Passes CX X E)
    (ht : eval (.Call (.Attribute o m apos) [] [] pos) X.env = (do
      let ov ← eval o X.env
      standAt apos.atName
      let (f, first) ← holding [ov] (getMethod ov m pl)
      callWith pos f first (backTo pos (starEach [] X.env)) (backToKw pos (keywordEach [] X.env))) := by rfl) :
    PE X (.Call (.Attribute o m apos) [] [] pos) (tSM C sp E ta tNil) := by
  refine ⟨fun pins s σ H Q I h => ?_⟩
  refine PySem.W.methodCall_KW (pl := pl) (thn (he.run pins s σ H _ I h) fun u s1 ⟨x, H1, I1, rx, ex, q⟩ => ?_) ht
  subst ex
  obtain rfl : u = Value.ref C := rx
  refine getsm_ok I1 r c fun s2 I2 => ?_
  exact PySem.W.callWith_K0 I2.kIn c.kp (run_fn (us := []) (vs := []) (ds := []) (dvs := []) F hr hb .nil hx I2 .nil q)
end

/-! ### defs of own classes, ready to be called -/
structure CalB (P : Program) (w : World) (K : PySem.W.Frag) (mg : Str → Option Value) (base : Heap) (CX : CXT) (k : Nat) (f : Addr) (fd : FuncData) (ps : List Str) (sp : Sp) : Prop where
  G : FnOk P w K mg base CX k f fd ps sp
  b : Binds K fd ps []
structure CalI (P : Program) (w : World) (K : PySem.W.Frag) (mg : Str → Option Value) (base : Heap) (CX : CXT) (k : Nat) (x : Str) (C f : Addr) (fd : FuncData) (ps : List Str) (sp : Sp) : Prop extends CalB P w K mg base CX k f fd ps sp where
  mkc : Mk K C f
  m : mg x = some (.ref C)
structure CalS (P : Program) (w : World) (K : PySem.W.Frag) (mg : Str → Option Value) (base : Heap) (CX : CXT) (k : Nat) (C p : Addr) (m : Str) (f : Addr) (fd : FuncData) (ps : List Str) (sp : Sp) : Prop extends CalB P w K mg base CX k f fd ps sp where
  rd : ClX.CRead K C (.type "type")
  sm : SMet K C (.type "type") m p f
structure CalP (P : Program) (w : World) (K : PySem.W.Frag) (mg : Str → Option Value) (base : Heap) (CX : CXT) (k : Nat) (C p : Addr) (m : Str) (f : Addr) (fd : FuncData) (ps : List Str) (sp : Sp) : Prop extends CalB P w K mg base CX k f fd ps sp where
  cl : Cls K C
  pr : PropOf K C m p f
structure CalO (P : Program) (w : World) (K : PySem.W.Frag) (mg : Str → Option Value) (base : Heap) (CX : CXT) (k : Nat) (C : Addr) (op : Operator) (f : Addr) (fd : FuncData) (ps : List Str) (sp : Sp) : Prop extends CalB P w K mg base CX k f fd ps sp where
  op : OpC K C f op
structure CalC (P : Program) (w : World) (K : PySem.W.Frag) (mg : Str → Option Value) (base : Heap) (CX : CXT) (k : Nat) (C f : Addr) (fd : FuncData) (ps : List Str) (sp : Sp) : Prop extends CalB P w K mg base CX k f fd ps sp where
  co : StX.CallO K C f

/-! ### the written part named (in comprehensions) -/
section
variable {X : Cx} {e : Expr} {es : List Expr} {f : Str} {pos p : Pos} {ta : TE} {t : TA}
theorem e_f (K : PySem.W.Frag) (he : PE X e ta) (hb : attributeBase e f X.env (eval e X.env) = eval e X.env := by rfl) (h : X.K = K := by rfl) : PE X (.Attribute e f pos) (tFld K ta f) := h ▸ pe_fld he hb
theorem e_cv (K : PySem.W.Frag) (he : PE X e ta) (hb : attributeBase e f X.env (eval e X.env) = eval e X.env := by rfl) (h : X.K = K := by rfl) : PE X (.Attribute e f pos) (ClX.tCVal K ta f) := h ▸ ClX.pe_cval he hb
end

/-! ### len of an own class -/
structure LenC (K : PySem.W.Frag) (C f : Addr) : Prop where
  at_ : PySem.W.findIn K (.ref C) "__len__" = some (some (.ref f))
  fn : PySem.W.isFn K (.ref f) = true
theorem call_lenO {X : Cx} {k : Nat} {C f : Addr} {fd : FuncData} {ps : List Str} {sp : Sp} (c : LenC X.K C f) (F : FnOk X.prog X.w X.K X.mg X.base CX0 k f fd ps sp) (hr : Room (k + 1) X.A) (hb : Binds X.K fd ps []) :
    CallR X (.builtin "len") (fun xs H Q => ∃ a dx fs, xs = [.ref a] ∧ H a = some (.ins C dx fs) ∧ sp [.ref a] H (fun v H' => ∃ n : Int, v = .int n ∧ 0 ≤ n ∧ n < 2 ^ 62 ∧ Q (.int n) H') E0) := by
  intro pins s σ H xs us Q I r h
  obtain ⟨a, dx, fs, rfl, ea, q⟩ := h
  obtain rfl := Vals.ref1 r
  obtain ⟨m, fr⟩ := I.fr
  obtain ⟨mA, O, _⟩ := ins_get I.hok ea
  obtain ⟨od, J, _⟩ := O.look
  refine PySem.W.len_K fr I.ok.mod.kin J c.at_ c.fn ?_
  have hl : ([Value.ref a] ++ []).length = ps.length := (F.len _ _ _ _ q)
  have b := hb s [.ref a] I.kIn hl
  rw [List.append_nil] at b
  refine wpAny_call (codeAny_mono (F.run X.A.in1 X.stack s H ⟨[.ref a], []⟩ [.ref a] [.ref a] _ E0 hr.in1 I.env0.in1 b (.cons rfl .nil) q) fun r s' hq' => ?_)
  cases r with
  | error e => exact False.elim hq'
  | ok fl =>
    cases fl with
    | ret u =>
      obtain ⟨v, H', I3, rv, n, rfl, h0, h1, q3⟩ := I.after hq'
      obtain ⟨t, rfl⟩ := rv
      exact ⟨⟨h0, Int.lt_trans h1 (by decide)⟩, ⟨.int n, H', I3.tok _, ⟨_, rfl⟩, q3⟩⟩
    | next => exact False.elim hq'
    | brk => exact False.elim hq'
    | cont => exact False.elim hq'
structure CalL (P : Program) (w : World) (K : PySem.W.Frag) (mg : Str → Option Value) (base : Heap) (CX : CXT) (k : Nat) (C f : Addr) (fd : FuncData) (ps : List Str) (sp : Sp) : Prop extends CalB P w K mg base CX k f fd ps sp where
  le : LenC K C f
end El

set_option Elab.async false
set_option linter.all false
set_option maxRecDepth 100000
set_option maxHeartbeats 4000000
/-! Own words: static methods and callable objects inside a try; exception classes that inherit their __init__. -/
namespace El
open PySem PySem.Spec PyProof.Rows L2
section
variable {X : Cx} {CX : CXT} {k : Nat} {C p g f : Addr} {mc : Value} {fd : FuncData} {ps : List Str} {sp : Sp} {E : L2.St → XK} {o e fe : Expr} {es : List Expr} {m : Str} {pos apos : Pos} {ta tf : TE} {t : TA} {pl : Sem Bool}
theorem code_fnS {pins : List (Addr × Obj)} {σ : L2.St} {H : Hp} {s : Shared} {Q : VK} {us : List Value} {vs : List V} (F : FnOk X.prog X.w X.K X.mg X.base CX k f fd ps sp) (hr : Room k X.A) (hb : Binds X.K fd ps []) (hx : PassesAt CX X σ (E σ))
    (I : Inv X pins σ H s) (r : Vals vs us) (h : sp vs H Q (E σ)) : codeAny (model X.prog X.w) X.A (.call (.ref f) ⟨us, []⟩) (fun r s' => match r with | .ok (.ret u) => EP X pins σ Q u s' | .error e => X.xe e s' | _ => False) s := by
  have hl : us.length = ps.length := by rw [← r.length]; exact F.len _ _ _ _ h
  have b := hb s us I.kIn (by rw [List.append_nil]; exact hl)
  rw [List.append_nil] at b
  refine codeAny_mono (F.run X.A X.stack s H ⟨us, []⟩ us vs Q (E σ) hr I.env0 b r h) fun r s' hq => ?_
  cases r with
  | error e => exact hx pins H s e s' I hq
  | ok fl =>
    cases fl with
    | ret u => exact I.after hq
    | next => exact False.elim hq
    | brk => exact False.elim hq
    | cont => exact False.elim hq
/-- C.m(e, ..), what it lets out being taken where it stands -/
def tSMS (C : Addr) (sp : Sp) (E : L2.St → XK) (ta : TE) (t : TA) : TE := fun σ H Q => ta σ H fun x H1 => x = .ref C ∧ t σ H1 fun vs H2 => sp vs H2 Q (E σ)
theorem pe_smethS (he : PE X o ta) (r : ClX.CRead X.K C mc) (c : SMet X.K C mc m p g) (F : FnOk X.prog X.w X.K X.mg X.base CX k g fd ps sp) (hr : Room k X.A) (hb : Binds X.K fd ps []) (hx : ∀ σ, PassesAt CX X σ (E σ)) (ha : PA X (e :: es) t)
    (hst : starEach (e :: es) X.env = (false, eval e X.env) :: starEach es X.env := by rfl) (hpl : (backTo pos (starEach es X.env)).any (·.1) = false := by rfl)
    (ht : eval (.Call (.Attribute o m apos) (e :: es) [] pos) X.env = (do
      let ov ← eval o X.env
      standAt apos.atName
      let (f, first) ← holding [ov] (getMethod ov m pl)
      callWith pos f first (backTo pos (starEach (e :: es) X.env)) (backToKw pos (keywordEach [] X.env))) := by rfl) :
    PE X (.Call (.Attribute o m apos) (e :: es) [] pos) (tSMS C sp E ta t) := by
  refine ⟨fun pins s σ H Q I h => ?_⟩
  refine PySem.W.methodCall_KW (pl := pl) (thn (he.run pins s σ H _ I h) fun u s1 ⟨x, H1, I1, rx, ex, q⟩ => ?_) ht
  subst ex
  obtain rfl : u = Value.ref C := rx
  refine getsm_ok I1 r c fun s2 I2 => ?_
  refine PySem.W.callWith_K (h₀ := X.base) I2.ok.mod.kin c.kp (thn (ha.run pos pins s2 σ H1 _ I2 q) fun us s3 ⟨vs, H2, I3, rv, q2⟩ => ⟨I3.kIn, ?_⟩) hst hpl
  exact run_fnS F hr hb (hx σ) I3 rv q2
/-- f(e, ..), f an instance of C, what it lets out being taken where it stands -/
def tCallOS (C : Addr) (sp : Sp) (E : L2.St → XK) (tf : TE) (t : TA) : TE := fun σ H Q => tf σ H fun y H1 => ∃ a, y = V.ref a ∧ t σ H1 fun vs H2 => (∃ dx fs, H2 a = some (.ins C dx fs)) ∧ sp (V.ref a :: vs) H2 Q (E σ)
theorem pe_callOS (hf : PE X fe tf) (c : StX.CallO X.K C g) (F : FnOk X.prog X.w X.K X.mg X.base CX k g fd ps sp) (hb : Binds X.K fd ps []) (hr : Room k X.A) (hx : ∀ σ, PassesAt CX X σ (E σ)) (ha : PA X (e :: es) t)
    (ht : eval (.Call fe (e :: es) [] pos) X.env = (do callWith pos (← eval fe X.env) [] (backTo pos (starEach (e :: es) X.env)) (backToKw pos (keywordEach [] X.env))) := by rfl)
    (he : starEach (e :: es) X.env = (false, eval e X.env) :: starEach es X.env := by rfl) (hpl : (backTo pos (starEach es X.env)).any (·.1) = false := by rfl) : PE X (.Call fe (e :: es) [] pos) (tCallOS C sp E tf t) := by
  refine ⟨fun pins s σ H Q I h => ?_⟩
  refine Call_ (thn (hf.run pins s σ H _ I h) fun u s1 ⟨y, H1, I1, ry, a, ey, q⟩ => ?_) ht
  subst ey
  obtain rfl : u = Value.ref a := ry
  refine StX.callO_with (thn (ha.run pos pins s1 σ H1 _ I1 q) fun us s2 ⟨vs, H2, I2, r, hi, q2⟩ => ?_) he hpl
  obtain ⟨ox, od, J, hd⟩ := StX.insC_at I2 (.inr hi)
  refine ⟨⟨C, ox, od, J, hd⟩, ?_⟩
  refine wpAny_call (PySem.W.kco_code I2.kIn J hd c.at_ c.fn c.fi (codeAny_mono (code_fnS (us := .ref a :: us) (vs := .ref a :: vs) F hr hb (hx σ) I2 (.cons rfl r) q2) fun r s' h => ?_))
  cases r with
  | error e => exact h
  | ok fl =>
    cases fl with
    | ret u => exact h
    | next => exact False.elim h
    | brk => exact False.elim h
    | cont => exact False.elim h
end

/-! ### an exception class C whose __init__ is that of D above it -/
open NdefX
structure ExI (K : PySem.W.Frag) (C D fI : Addr) (fields : List Str) : Prop where
  oex : OexC K C
  sup : PySem.W.ks_superIn K C D "__init__" = some (some (.builtin "ValueError.__init__"))
  subV : PySem.W.subIn K (.ref C) (.type "ValueError") = some true
  mro : PySem.W.mroIn K C (.ref D) = some true
  iC : PySem.W.findIn K (.ref C) "__init__" = some (some (.ref fI))
  tI : PySem.W.typeIn K (.ref fI) = some (.type "function")
  no : ∀ f ∈ fields, PySem.W.findIn K (.ref C) f = some none
  xf : XfC K C
  is : ExcC K C
theorem exi_mk {K : PySem.W.Frag} {C D fI N : Addr} {fields : List Str} {nm q : Str} {bs bm : List Value} {sn : List Str} {sub : List Value} {ab : Bool} {col : Option Bool} {dd : Option Addr} {k0 k1 k2 k3 k5 : Option Value}
    (cls : K.lookup C = some (excClassObj nm q C N bs bm true sn sub ab col dd k0 k1 k2 k3 k5 "ValueError.__new__")) (ref : PySem.HandSPX.refsVE bm = true)
    (sa : PySem.W.findIn K (.ref C) "__setattr__" = some (some (.builtin "object.__setattr__"))) (exC : PySem.W.subIn K (.ref C) (.type "BaseException") = some true) (tyC : PySem.W.typeIn K (.ref C) = some (.type "type")) (kC : PySem.W.keepIn K (.ref C) = true)
    (sup : PySem.W.ks_superIn K C D "__init__" = some (some (.builtin "ValueError.__init__"))) (subV : PySem.W.subIn K (.ref C) (.type "ValueError") = some true) (mro : PySem.W.mroIn K C (.ref D) = some true)
    (iC : PySem.W.findIn K (.ref C) "__init__" = some (some (.ref fI))) (tI : PySem.W.typeIn K (.ref fI) = some (.type "function")) (no : ∀ f ∈ fields, PySem.W.findIn K (.ref C) f = some none)
    (ga : PySem.W.findIn K (.ref C) "__getattribute__" = some (some (.builtin "BaseException.__getattribute__"))) (gg : PySem.W.findIn K (.ref C) "__getattr__" = some none) (hd : PySem.W.hasDictIn K C = true)
    (hcl : PySem.W.findIn K (.ref C) "__class__" = some (some (.builtin "object.__class__"))) (hn : PySem.W.specialIn K (.builtin "object.__class__") "__get__" = some (some (.builtin "getset_descriptor.__get__"))) (ht : PySem.W.takesIn K (.builtin "object.__class__") = some true) (hm : PySem.W.mroIn K C (.type "object") = some true) : ExI K C D fI fields :=
  ⟨⟨⟨nm, q, N, bs, bm, sn, sub, ab, col, dd, k0, k1, k2, k3, k5, cls, ref⟩, sa, exC, tyC, kC⟩, sup, subV, mro, iC, tI, no, ⟨ga, gg, exC, hd⟩, ⟨ga, gg, exC, hd, hcl, hn, ht, hm⟩⟩
structure CalEI (P : Program) (w : World) (K : PySem.W.Frag) (mg : Str → Option Value) (base : Heap) (k : Nat) (x : Str) (C f : Addr) (fd : FuncData) (ps : List Str) (ok : List V → Prop) (fs : List V → List (Str × V)) (fields : List Str) : Prop where
  G : FnOk P w K mg base CX0 k f fd ps (spE C ok fs)
  b : Binds K fd ps []
  X : ∃ D, ExI K C D f fields
  m : mg x = some (.ref C)
theorem CalEI.oex {P : Program} {w : World} {K : PySem.W.Frag} {mg : Str → Option Value} {base : Heap} {k : Nat} {x : Str} {C f : Addr} {fd : FuncData} {ps : List Str} {ok : List V → Prop} {fs : List V → List (Str × V)} {fields : List Str} (c : CalEI P w K mg base k x C f fd ps ok fs fields) : OexC K C := by obtain ⟨D, X⟩ := c.X; exact X.oex
theorem CalEI.iC {P : Program} {w : World} {K : PySem.W.Frag} {mg : Str → Option Value} {base : Heap} {k : Nat} {x : Str} {C f : Addr} {fd : FuncData} {ps : List Str} {ok : List V → Prop} {fs : List V → List (Str × V)} {fields : List Str} (c : CalEI P w K mg base k x C f fd ps ok fs fields) : PySem.W.findIn K (.ref C) "__init__" = some (some (.ref f)) := by obtain ⟨D, X⟩ := c.X; exact X.iC
theorem CalEI.tI {P : Program} {w : World} {K : PySem.W.Frag} {mg : Str → Option Value} {base : Heap} {k : Nat} {x : Str} {C f : Addr} {fd : FuncData} {ps : List Str} {ok : List V → Prop} {fs : List V → List (Str × V)} {fields : List Str} (c : CalEI P w K mg base k x C f fd ps ok fs fields) : PySem.W.typeIn K (.ref f) = some (.type "function") := by obtain ⟨D, X⟩ := c.X; exact X.tI
/-! ### characters whose repr is bounded -/
def Asc (z : Str) : Prop := ∀ c ∈ z.cps.toList, c < 16 ^ 8
theorem repr_le {z : Str} (h : Asc z) (hl : z.length ≤ 1000) : (reprText z).length ≤ 10002 := Nat.le_trans (PySem.StrLaws.reprText_len z h) (by omega)
end El

set_option Elab.async false
set_option linter.all false
set_option maxRecDepth 100000
/-! Own mathematics: a line as a list of codes, its tokens. -/
namespace El
abbrev LT : List Nat := [97, 98, 99, 100, 101, 102, 103, 104, 105, 106, 107, 108, 109, 110, 111, 112, 113, 114, 115, 116, 117, 118, 119, 120, 121, 122]
abbrev DG : List Nat := [48, 49, 50, 51, 52, 53, 54, 55, 56, 57]
abbrev SG : List (List Nat) := [[60], [60, 61], [61, 61], [33, 61], [62, 61], [62]]
abbrev MK : List (List Nat) := [[40], [41], [44], [59], [58]]
def isL (c : Nat) : Bool := decide (c ∈ LT)
def isD (c : Nat) : Bool := decide (c ∈ DG)
theorem isL_iff {c : Nat} : isL c = true ↔ 97 ≤ c ∧ c ≤ 122 := by
  unfold isL
  rw [decide_eq_true_iff]
  simp only [LT, List.mem_cons, List.not_mem_nil, or_false]
  omega
theorem isD_iff {c : Nat} : isD c = true ↔ 48 ≤ c ∧ c ≤ 57 := by
  unfold isD
  rw [decide_eq_true_iff]
  simp only [DG, List.mem_cons, List.not_mem_nil, or_false]
  omega
/-- a sign or a mark -/
def inSM (p : List Nat) : Bool := decide (p ∈ SG) || decide (p ∈ MK)
/-- how long the token is with which a rest begins; 0: none -/
def tokLen : List Nat → Nat
  | [] => 0
  | c :: r => if isL c then ((c :: r).takeWhile isL).length else if isD c then ((c :: r).takeWhile isD).length
    else if c = 45 then (if (r.takeWhile isD).length = 0 then 0 else 1 + (r.takeWhile isD).length)
    else if inSM ((c :: r).take 2) then ((c :: r).take 2).length else if inSM [c] then 1 else 0
theorem tokLen_cons (c : Nat) (r : List Nat) : tokLen (c :: r) = if isL c then ((c :: r).takeWhile isL).length else if isD c then ((c :: r).takeWhile isD).length
    else if c = 45 then (if (r.takeWhile isD).length = 0 then 0 else 1 + (r.takeWhile isD).length)
    else if inSM ((c :: r).take 2) then ((c :: r).take 2).length else if inSM [c] then 1 else 0 := rfl
theorem ite_le {c : Prop} [Decidable c] {a b n : Nat} (h1 : a ≤ n) (h2 : b ≤ n) : (if c then a else b) ≤ n := by split <;> assumption
theorem tokLen_le : ∀ r : List Nat, tokLen r ≤ r.length
  | [] => Nat.le_refl _
  | c :: r => by
    have h1 : ∀ (f : Nat → Bool) (l : List Nat), (l.takeWhile f).length ≤ l.length := fun f l => (List.takeWhile_sublist f).length_le
    have a := h1 isL (c :: r)
    have b := h1 isD (c :: r)
    have d := h1 isD r
    have e : ((c :: r).take 2).length ≤ (c :: r).length := by rw [List.length_take]; omega
    have hn : (c :: r).length = r.length + 1 := List.length_cons
    exact ite_le a (ite_le b (ite_le (ite_le (by omega) (by omega)) (ite_le e (ite_le (by omega) (by omega)))))
/-- the tokens of a rest that begins at a column, or the column of the first strange sign -/
def splitN : Nat → List Nat → Nat → Except Nat (List (List Nat × Nat))
  | 0, _, _ => .ok []
  | _ + 1, [], _ => .ok []
  | n + 1, c :: r, col => if 0 < tokLen (c :: r) then
      (match splitN n ((c :: r).drop (tokLen (c :: r))) (col + tokLen (c :: r)) with
        | .ok l => .ok (((c :: r).take (tokLen (c :: r)), col) :: l)
        | .error e => .error e)
    else if c = 32 then splitN n r (col + 1) else .error col
def splitL (r : List Nat) (col : Nat) : Except Nat (List (List Nat × Nat)) := splitN r.length r col
theorem splitN_more : ∀ (n m : Nat) (r : List Nat) (col : Nat), r.length ≤ n → n ≤ m → splitN m r col = splitN n r col
  | 0, 0, _, _, _, _ => rfl
  | 0, m + 1, [], _, _, _ => rfl
  | 0, m + 1, c :: r, _, h, _ => absurd h (by simp)
  | n + 1, 0, _, _, _, h => absurd h (by omega)
  | n + 1, m + 1, [], _, _, _ => rfl
  | n + 1, m + 1, c :: r, col, h, h2 => by
    rw [List.length_cons] at h
    unfold splitN
    split
    · rename_i ht
      rw [splitN_more n m _ _ (by rw [List.length_drop, List.length_cons]; omega) (by omega)]
    · rw [splitN_more n m r _ (by omega) (by omega)]
theorem splitL_tok {r : List Nat} {col : Nat} (h : 0 < tokLen r) : splitL r col = match splitL (r.drop (tokLen r)) (col + tokLen r) with
    | .ok l => .ok ((r.take (tokLen r), col) :: l)
    | .error e => .error e := by
  cases r with
  | nil => exact absurd h (by simp [tokLen])
  | cons c r =>
    unfold splitL
    rw [List.length_cons]
    show splitN (r.length + 1) (c :: r) col = _
    rw [splitN, if_pos h, splitN_more _ r.length _ _ (Nat.le_refl _) (by rw [List.length_drop, List.length_cons]; omega)]
theorem splitL_space {r : List Nat} {col : Nat} : splitL (32 :: r) col = splitL r (col + 1) := by
  have h : tokLen (32 :: r) = 0 := by
    rw [tokLen_cons]
    rw [if_neg (by decide), if_neg (by decide), if_neg (by decide)]
    have : inSM ((32 :: r).take 2) = false := by
      cases r with
      | nil => decide
      | cons a r => simp [inSM]
    rw [this]
    rfl
  unfold splitL
  rw [List.length_cons]
  show splitN (r.length + 1) (32 :: r) col = _
  rw [splitN, if_neg (by rw [h]; decide), if_pos rfl]
theorem splitL_bad {c : Nat} {r : List Nat} {col : Nat} (h : tokLen (c :: r) = 0) (hc : c ≠ 32) : splitL (c :: r) col = .error col := by
  unfold splitL
  rw [List.length_cons]
  show splitN (r.length + 1) (c :: r) col = _
  rw [splitN, if_neg (by rw [h]; decide), if_neg hc]
theorem splitL_nil {col : Nat} : splitL [] col = .ok [] := rfl
theorem splitL_spaces : ∀ (g : Nat) {r : List Nat} {col : Nat}, splitL (List.replicate g 32 ++ r) col = splitL r (col + g)
  | 0, _, _ => rfl
  | g + 1, r, col => by
    rw [List.replicate_succ, List.cons_append, splitL_space, splitL_spaces g, show col + 1 + g = col + (g + 1) by omega]

/-! ### tokens -/
/-- a word, an integer, a sign, a mark -/
inductive Tok : List Nat → Prop where
  | word {p : List Nat} (h0 : p ≠ []) (h : ∀ c ∈ p, isL c = true) : Tok p
  | int {p : List Nat} (h0 : p ≠ []) (h : ∀ c ∈ p, isD c = true) : Tok p
  | neg {p : List Nat} (h0 : p ≠ []) (h : ∀ c ∈ p, isD c = true) : Tok (45 :: p)
  | sm {p : List Nat} (h : inSM p = true) : Tok p
/-- no token begins so: a strange sign, alone -/
def Strange (c : Nat) : Prop := isL c = false ∧ isD c = false ∧ c ≠ 32 ∧ inSM [c] = false
/-- two pieces that would run together -/
def touchB (p q : List Nat) : Bool :=
  (isL (p.getLastD 0) && isL (q.headD 0)) || (isD (q.headD 0) && (isD (p.getLastD 0) || decide (p = [45]))) || (decide (q.headD 0 = 61) && (decide (p = [60]) || decide (p = [62]) || decide (p = [33]) || decide (p = [61])))
/-- what stands behind a piece does not run together with it -/
def Sep (p s : List Nat) : Prop := ∀ c r, s = c :: r → c = 32 ∨ touchB p [c] = false
theorem takeWhile_app {f : Nat → Bool} : ∀ {p s : List Nat}, (∀ c ∈ p, f c = true) → (∀ c r, s = c :: r → f c = false) → (p ++ s).takeWhile f = p
  | [], [], _, _ => rfl
  | [], c :: r, _, h => by
    rw [List.nil_append, List.takeWhile_cons, h c r rfl]
    rfl
  | a :: p, s, h1, h2 => by
    rw [List.cons_append, List.takeWhile_cons, h1 a List.mem_cons_self, if_pos rfl, takeWhile_app (fun c hc => h1 c (List.mem_cons_of_mem _ hc)) h2]
theorem getLastD_mem : ∀ {p : List Nat}, p ≠ [] → p.getLastD 0 ∈ p
  | [], h => absurd rfl h
  | [a], _ => List.mem_cons_self
  | a :: b :: r, _ => List.mem_cons_of_mem _ (getLastD_mem (p := b :: r) (by simp))
theorem touch_l {p : List Nat} {c : Nat} (h0 : p ≠ []) (h : ∀ c ∈ p, isL c = true) (ht : touchB p [c] = false) : isL c = false := by
  unfold touchB at ht
  rw [h _ (getLastD_mem h0)] at ht
  cases hc : isL c with
  | false => rfl
  | true => rw [show [c].headD 0 = c from rfl, hc] at ht; simp at ht
theorem touch_d {p : List Nat} {c : Nat} (h0 : p ≠ []) (h : isD (p.getLastD 0) = true) (ht : touchB p [c] = false) : isD c = false := by
  unfold touchB at ht
  rw [h] at ht
  cases hc : isD c with
  | false => rfl
  | true => rw [show [c].headD 0 = c from rfl, hc] at ht; simp at ht
theorem ld_l {c : Nat} (h : isL c = true) : isD c = false ∧ c ≠ 45 ∧ c ≠ 32 := by
  rw [isL_iff] at h
  refine ⟨?_, by omega, by omega⟩
  cases hd : isD c with
  | false => rfl
  | true => rw [isD_iff] at hd; omega
theorem ld_d {c : Nat} (h : isD c = true) : isL c = false ∧ c ≠ 45 ∧ c ≠ 32 := by
  rw [isD_iff] at h
  refine ⟨?_, by omega, by omega⟩
  cases hd : isL c with
  | false => rfl
  | true => rw [isL_iff] at hd; omega
theorem sm_cases {p : List Nat} (h : inSM p = true) : p ∈ SG ++ MK := by
  unfold inSM at h
  rw [Bool.or_eq_true, decide_eq_true_iff, decide_eq_true_iff] at h
  exact List.mem_append.mpr h
theorem sm2 {c d : Nat} (h : inSM [c, d] = true) : d = 61 ∧ (c = 60 ∨ c = 61 ∨ c = 33 ∨ c = 62) := by
  have h := sm_cases h
  simp at h
  omega
/-- the token that stands ahead is read -/
theorem tokLen_tok {p s : List Nat} (h : Tok p) (hs : Sep p s) : tokLen (p ++ s) = p.length := by
  cases h with
  | word h0 h =>
    cases p with
    | nil => exact absurd rfl h0
    | cons c p =>
      have hc := h c List.mem_cons_self
      show tokLen (c :: (p ++ s)) = _
      rw [tokLen_cons]
      rw [if_pos hc, ← List.cons_append, takeWhile_app h fun d r e => ?_]
      rcases hs d r e with rfl | ht
      · rfl
      · exact touch_l h0 h ht
  | int h0 h =>
    cases p with
    | nil => exact absurd rfl h0
    | cons c p =>
      have hc := h c List.mem_cons_self
      have hn := ld_d hc
      show tokLen (c :: (p ++ s)) = _
      rw [tokLen_cons]
      rw [if_neg (by rw [hn.1]; decide), if_pos hc, ← List.cons_append, takeWhile_app h fun d r e => ?_]
      rcases hs d r e with rfl | ht
      · rfl
      · exact touch_d h0 (h _ (getLastD_mem h0)) ht
  | @neg p h0 h =>
    show tokLen (45 :: (p ++ s)) = _
    rw [tokLen_cons]
    rw [if_neg (by decide), if_neg (by decide), if_pos rfl, takeWhile_app h fun d r e => ?_]
    · rw [if_neg, List.length_cons]
      · omega
      · cases p with
        | nil => exact absurd rfl h0
        | cons a p => simp
    · rcases hs d r e with rfl | ht
      · rfl
      · refine touch_d (p := 45 :: p) (by simp) ?_ ht
        cases p with
        | nil => exact absurd rfl h0
        | cons a p => exact h _ (getLastD_mem (p := a :: p) (by simp))
  | sm h =>
    have hm := sm_cases h
    simp only [SG, MK, List.cons_append, List.nil_append, List.mem_cons, List.not_mem_nil, or_false] at hm
    have one : ∀ c : Nat, isL c = false → isD c = false → c ≠ 45 → inSM [c] = true → (∀ d r, s = d :: r → inSM [c, d] = false) → tokLen ([c] ++ s) = 1 := fun c h1 h2 h3 h4 h5 => by
      show tokLen (c :: s) = 1
      rw [tokLen_cons]
      rw [if_neg (by rw [h1]; decide), if_neg (by rw [h2]; decide), if_neg h3]
      cases s with
      | nil => rw [if_pos (by exact h4)]; rfl
      | cons d r => rw [if_neg (by rw [show (c :: d :: r).take 2 = [c, d] from rfl, h5 d r rfl]; decide), if_pos h4]
    have two : ∀ c d : Nat, isL c = false → isD c = false → c ≠ 45 → inSM [c, d] = true → tokLen ([c, d] ++ s) = 2 := fun c d h1 h2 h3 h4 => by
      show tokLen (c :: d :: s) = 2
      rw [tokLen_cons]
      rw [if_neg (by rw [h1]; decide), if_neg (by rw [h2]; decide), if_neg h3, if_pos (by exact h4)]
      rfl
    have mk : ∀ c : Nat, (c ≠ 60 ∧ c ≠ 61 ∧ c ≠ 33 ∧ c ≠ 62) → ∀ d r, s = d :: r → inSM [c, d] = false := fun c hc d r e => by
      cases q : inSM [c, d] with
      | false => rfl
      | true => have := sm2 q; omega
    have lg : ∀ c : Nat, (c = 60 ∨ c = 62) → p = [c] → ∀ d r, s = d :: r → inSM [c, d] = false := fun c hc hp d r e => by
      cases q : inSM [c, d] with
      | false => rfl
      | true =>
        have := (sm2 q).1
        subst this
        rcases hs _ r e with h | ht
        · exact absurd h (by decide)
        · rw [hp] at ht
          rcases hc with rfl | rfl <;> exact absurd ht (by decide)
    rcases hm with rfl | rfl | rfl | rfl | rfl | rfl | rfl | rfl | rfl | rfl | rfl
    · exact one 60 (by decide) (by decide) (by decide) (by decide) (lg 60 (.inl rfl) rfl)
    · exact two 60 61 (by decide) (by decide) (by decide) (by decide)
    · exact two 61 61 (by decide) (by decide) (by decide) (by decide)
    · exact two 33 61 (by decide) (by decide) (by decide) (by decide)
    · exact two 62 61 (by decide) (by decide) (by decide) (by decide)
    · exact one 62 (by decide) (by decide) (by decide) (by decide) (lg 62 (.inr rfl) rfl)
    all_goals exact one _ (by decide) (by decide) (by decide) (by decide) (mk _ (by decide))
/-- a strange sign is no token -/
theorem tokLen_strange {c : Nat} {s : List Nat} (h : Strange c) (hs : Sep [c] s) : tokLen (c :: s) = 0 := by
  obtain ⟨h1, h2, h3, h4⟩ := h
  rw [tokLen_cons]
  rw [if_neg (by rw [h1]; decide), if_neg (by rw [h2]; decide)]
  by_cases hc : c = 45
  · subst hc
    rw [if_pos rfl]
    have : (s.takeWhile isD).length = 0 := by
      cases s with
      | nil => rfl
      | cons d r =>
        have : isD d = false := by
          rcases hs d r rfl with rfl | ht
          · rfl
          · cases q : isD d with
            | false => rfl
            | true => unfold touchB at ht; rw [show [d].headD 0 = d from rfl, q] at ht; simp at ht
        rw [List.takeWhile_cons, this]
        rfl
    rw [this]
    rfl
  · rw [if_neg hc, if_neg, if_neg (by rw [h4]; decide)]
    cases s with
    | nil => rw [show [c].take 2 = [c] from rfl, h4]; decide
    | cons d r =>
      rw [show (c :: d :: r).take 2 = [c, d] from rfl]
      intro q
      have q2 := sm2 q
      obtain ⟨rfl, q2⟩ := q2
      rcases hs _ r rfl with h | ht
      · exact absurd h (by decide)
      · rcases q2 with rfl | rfl | rfl | rfl <;> first | exact absurd ht (by decide) | exact absurd h4 (by decide)

/-! ### a line that is laid out of pieces, each behind a gap -/
def lay : List (Nat × List Nat) → List Nat → List Nat
  | [], t => t
  | (g, p) :: r, t => List.replicate g 32 ++ (p ++ lay r t)
def cols : Nat → List (Nat × List Nat) → List Nat
  | _, [] => []
  | c, (g, p) :: r => (c + g) :: cols (c + g + p.length) r
/-- pieces that stand together do not run together -/
def Apart : List (Nat × List Nat) → Prop
  | [] => True
  | [_] => True
  | (_, p) :: (g, q) :: r => (g = 0 → touchB p q = false) ∧ q ≠ [] ∧ Apart ((g, q) :: r)
theorem touch_head {p q : List Nat} (h : q ≠ []) : ∃ c r, q = c :: r ∧ touchB p q = touchB p [c] := by
  cases q with
  | nil => exact absurd rfl h
  | cons c r => exact ⟨c, r, rfl, rfl⟩
theorem sep_lay {g : Nat} {p : List Nat} {r : List (Nat × List Nat)} {t : Nat} (h : Apart ((g, p) :: r)) : Sep p (lay r (List.replicate t 32)) := by
  intro c s e
  cases r with
  | nil =>
    cases t with
    | zero => cases e
    | succ t => simp only [lay, List.replicate_succ] at e; injection e with e1 e2; exact .inl e1.symm
  | cons x r =>
    obtain ⟨g', q⟩ := x
    obtain ⟨h1, h2, _⟩ := h
    cases g' with
    | succ g' =>
      rw [lay, List.replicate_succ, List.cons_append] at e
      injection e with e1 e2
      exact .inl e1.symm
    | zero =>
      obtain ⟨d, r', rfl, ht⟩ := touch_head (p := p) h2
      rw [lay, List.replicate_zero, List.nil_append, List.cons_append] at e
      injection e with e1 e2
      subst e1
      exact .inr (by rw [← ht]; exact h1 rfl)
theorem Apart.tail {x : Nat × List Nat} {r : List (Nat × List Nat)} (h : Apart (x :: r)) : Apart r := by
  cases r with
  | nil => trivial
  | cons y r => exact h.2.2
theorem tok_ne {p : List Nat} (h : Tok p) : p ≠ [] := by
  cases h with
  | word h0 _ => exact h0
  | int h0 _ => exact h0
  | neg h0 _ => simp
  | sm h => intro e; subst e; exact absurd h (by decide)
theorem split_lay {t : Nat} : ∀ {xs : List (Nat × List Nat)} {c : Nat}, Apart xs → (∀ x ∈ xs, Tok x.2) → splitL (lay xs (List.replicate t 32)) c = .ok ((xs.map (·.2)).zip (cols c xs))
  | [], c, _, _ => by
    have := splitL_spaces t (r := []) (col := c)
    rw [List.append_nil] at this
    rw [lay, this]
    rfl
  | (g, p) :: r, c, ha, ht => by
    have hp := ht (g, p) List.mem_cons_self
    have hl := tokLen_tok hp (sep_lay (t := t) ha)
    have hpos : 0 < p.length := List.length_pos_iff.mpr (tok_ne hp)
    rw [lay, splitL_spaces, splitL_tok (by rw [hl]; exact hpos), hl, List.drop_left, List.take_left, split_lay ha.tail fun x hx => ht x (List.mem_cons_of_mem _ hx)]
    rfl
theorem split_bad {t : Nat} : ∀ {xs ys : List (Nat × List Nat)} {g s c : Nat}, Apart (xs ++ (g, [s]) :: ys) → (∀ x ∈ xs, Tok x.2) → Strange s → ∃ e, splitL (lay (xs ++ (g, [s]) :: ys) (List.replicate t 32)) c = .error e ∧ (cols c (xs ++ (g, [s]) :: ys))[xs.length]? = some e
  | [], ys, g, s, c, ha, _, hs => by
    refine ⟨c + g, ?_, rfl⟩
    rw [List.nil_append, lay, splitL_spaces]
    exact splitL_bad (tokLen_strange hs (sep_lay (t := t) ha)) hs.2.2.1
  | (g', p) :: xs, ys, g, s, c, ha, ht, hs => by
    have hp := ht (g', p) List.mem_cons_self
    have hl : tokLen (p ++ lay (xs ++ (g, [s]) :: ys) (List.replicate t 32)) = p.length := tokLen_tok hp (sep_lay (t := t) ha)
    have hpos : 0 < p.length := List.length_pos_iff.mpr (tok_ne hp)
    obtain ⟨e, h1, h2⟩ := split_bad (t := t) (xs := xs) (ys := ys) (g := g) (s := s) (c := c + g' + p.length) ha.tail (fun x hx => ht x (List.mem_cons_of_mem _ hx)) hs
    refine ⟨e, ?_, h2⟩
    rw [List.cons_append, lay, splitL_spaces, splitL_tok (by rw [hl]; exact hpos), hl, List.drop_left, List.take_left, h1]
theorem lay_tail : ∀ {gs : List (Nat × List Nat)} {t : List Nat}, lay gs t = lay gs [] ++ t
  | [], _ => rfl
  | (g, p) :: r, t => by rw [lay, lay, lay_tail (gs := r) (t := t), List.append_assoc, List.append_assoc]
theorem lay_snoc : ∀ {gs : List (Nat × List Nat)} {g : Nat} {p : List Nat}, lay (gs ++ [(g, p)]) [] = lay gs [] ++ (List.replicate g 32 ++ p)
  | [], g, p => by simp [lay]
  | (g', p') :: r, g, p => by rw [List.cons_append, lay, lay_snoc (gs := r), lay, List.append_assoc, List.append_assoc]
theorem cols_snoc : ∀ {gs : List (Nat × List Nat)} {c g : Nat} {p : List Nat}, cols c (gs ++ [(g, p)]) = cols c gs ++ [c + (lay gs []).length + g]
  | [], c, g, p => by simp [lay, cols]
  | (g', p') :: r, c, g, p => by
    rw [List.cons_append, cols, cols_snoc (gs := r), cols, lay, List.cons_append]
    have : c + g' + p'.length + (lay r []).length + g = c + (List.replicate g' 32 ++ (p' ++ lay r [])).length + g := by
      rw [List.length_append, List.length_append, List.length_replicate]
      omega
    rw [this]
theorem apart_snoc : ∀ {gs : List (Nat × List Nat)} {g : Nat} {p : List Nat}, Apart gs → p ≠ [] → (∀ x, gs.getLast? = some x → g = 0 → touchB x.2 p = false) → Apart (gs ++ [(g, p)])
  | [], _, _, _, _, _ => trivial
  | [(g', q)], g, p, _, h0, h => ⟨fun e => h (g', q) rfl e, h0, trivial⟩
  | (g', q) :: (g2, q2) :: r, g, p, ha, h0, h => by
    obtain ⟨h1, h2, h3⟩ := ha
    exact ⟨h1, h2, apart_snoc h3 h0 fun x hx e => h x (by rw [List.getLast?_cons_cons]; exact hx) e⟩
theorem cols_len : ∀ {gs : List (Nat × List Nat)} {c : Nat}, (cols c gs).length = gs.length
  | [], _ => rfl
  | (g, p) :: r, c => by rw [cols, List.length_cons, cols_len, List.length_cons]
end El

set_option Elab.async false
set_option linter.all false
set_option maxRecDepth 100000
set_option maxHeartbeats 4000000
/-! Own words: methods of own classes, classes whose __init__ has defaults, tuple targets in comprehensions. -/
namespace El
open PySem PySem.Spec PyProof.Rows L2
structure CalM (P : Program) (w : World) (K : PySem.W.Frag) (mg : Str → Option Value) (base : Heap) (CX : CXT) (k : Nat) (C : Addr) (m : Str) (f : Addr) (fd : FuncData) (ps : List Str) (sp : Sp) : Prop extends CalB P w K mg base CX k f fd ps sp where
  cl : Cls K C
  me : Meth K C m f
/-- a class whose __init__ has defaults dvs that fill up -/
structure CalID (P : Program) (w : World) (K : PySem.W.Frag) (mg : Str → Option Value) (base : Heap) (CX : CXT) (k : Nat) (x : Str) (C f : Addr) (fd : FuncData) (ps : List Str) (dvs : List V) (sp : Sp) : Prop where
  G : FnOk P w K mg base CX k f fd ps sp
  b : ∃ ds, Vals dvs ds ∧ Binds K fd ps ds
  mkc : Mk K C f
  m : mg x = some (.ref C)
section
variable {X : Cx} {CX : CXT} {k : Nat} {C f : Addr} {fd : FuncData} {ps : List Str} {dvs : List V} {sp : Sp} {E : XK} {x : Str} {p pos : Pos} {e : Expr} {es : List Expr} {t : TA}
theorem pe_makeD (c : CalID X.prog X.w X.K X.mg X.base CX k x C f fd ps dvs sp) (hr : Room (k + 1) X.A) (hg : Gl X x) (hx : Passes CX X E) (ha : PA X (e :: es) t) (hdb : (x == ("__debug__" : Str)) = false := by decide)
    (he : starEach (e :: es) X.env = (false, eval e X.env) :: starEach es X.env := by rfl) (hpl : (backTo pos (starEach es X.env)).any (·.1) = false := by rfl) :
    PE X (.Call (.Name x p) (e :: es) [] pos) (tMake C sp dvs E t) := by
  obtain ⟨ds, hd, hb⟩ := c.b
  exact pe_make c.mkc c.G hr hg c.m hb hd hx ha hdb he hpl
end
section
variable {X : Cx}
theorem pg_tupK (K : PySem.W.Frag) {es : List Expr} {k : Nat} {t : TGs} {n : Nat} {pos : Pos} (hc : X.calm = true) (h : PGs X es t)
    (hn : (assignEach es X.env).length = n := by rfl) (hst : (assignEach es X.env).findIdx? (·.1) = none := by rfl) (hK : X.K = K := by rfl) : PG X (.Tuple es k pos) (gTup K n t) := hK ▸ pg_tup hc h hn hst
end
/-- a def of the text whose last parameter has a default -/
theorem fund_mk {K : PySem.W.Frag} {x qual : Str} {st : Stmt} {f T : Addr} {oc : Value} {od dd an : Option Addr} {osl dsl : Array (Option Value)} {kV doc pm cdv ct : Value} {its : Array Value} {n : Nat} {dvs : List V}
    (l : K.lookup f = some ⟨oc, od, .func (PySem.W.fnOf x qual (defArgs st) (defBody st) (defScope st) (.ref T) kV doc pm an cdv ct), osl⟩) (c : PySem.W.codeIn K cdv qual = true) (k : PySem.W.keepIn K (.ref f) = true)
    (lT : K.lookup T = some ⟨.type "tuple", dd, .seq its n, dsl⟩) (hv : Vals dvs its.toList) (hne : dvs ≠ []) : FunD K x qual (defArgs st) (defBody st) (defScope st) dvs [] f (PySem.W.fnOf x qual (defArgs st) (defBody st) (defScope st) (.ref T) kV doc pm an cdv ct) :=
  ⟨⟨oc, od, .ref T, kV, doc, pm, an, cdv, ct, osl, rfl, l, c, .inr ⟨hne, T, _, its.toList, n, rfl, lT, by simp, hv⟩, .inl rfl⟩, k⟩
end El

set_option Elab.async false
set_option linter.all false
set_option maxRecDepth 100000
set_option maxHeartbeats 4000000
/-! Own words: the text of an int as codes, a token, read back. -/
namespace El
open PySem PySem.Spec PyProof.Rows
theorem num_pos (n : Nat) : ((toString ((n : Nat) : Int) : String) : Str).cps.toList = (Nat.toDigits 10 n).map Char.toNat := PySem.W.KIN.signs_num n
theorem num_neg (n : Nat) : ((toString (Int.negSucc n) : String) : Str).cps.toList = 45 :: (Nat.toDigits 10 (n + 1)).map Char.toNat := by
  rw [signs_ofString]
  have e : (toString (Int.negSucc n) : String).toList = '-' :: (Nat.repr (n + 1)).toList := by
    show ("-" ++ Nat.repr (n + 1)).toList = _
    rw [String.toList_append]
    rfl
  rw [e, List.map_cons, Nat.toList_repr]
  rfl
theorem digits_all (n : Nat) : ∀ c ∈ (Nat.toDigits 10 n).map Char.toNat, 48 ≤ c ∧ c ≤ 57 := by
  intro c hc
  obtain ⟨ch, hch, e⟩ := List.mem_map.mp hc
  have r := digit_range (Nat.isDigit_of_mem_toDigits (by decide) (by decide) hch)
  rw [← e]
  exact r
theorem digits_ne (n : Nat) : (Nat.toDigits 10 n).map Char.toNat ≠ [] := by
  intro e
  exact Nat.toDigits_ne_nil (List.map_eq_nil_iff.mp e)
theorem digits_isD (n : Nat) : ∀ c ∈ (Nat.toDigits 10 n).map Char.toNat, isD c = true := fun c hc => isD_iff.mpr (digits_all n c hc)
theorem num_tok (i : Int) : Tok ((toString i : String) : Str).cps.toList := by
  cases i with
  | ofNat n => rw [show Int.ofNat n = ((n : Nat) : Int) from rfl, num_pos]; exact .int (digits_ne n) (digits_isD n)
  | negSucc n => rw [num_neg]; exact .neg (digits_ne _) (digits_isD _)
theorem num_last (i : Int) : isD (((toString i : String) : Str).cps.toList.getLastD 0) = true := by
  cases i with
  | ofNat n =>
    rw [show Int.ofNat n = ((n : Nat) : Int) from rfl, num_pos]
    exact digits_isD n _ (getLastD_mem (digits_ne n))
  | negSucc n =>
    rw [num_neg]
    have h := digits_ne (n + 1)
    have h2 := digits_isD (n + 1)
    generalize (Nat.toDigits 10 (n + 1)).map Char.toNat = xs at h h2
    cases xs with
    | nil => exact absurd rfl h
    | cons a r => exact h2 _ (getLastD_mem (p := a :: r) h)
theorem num_reads' {i : Int} (h : ((toString i : String) : Str).length ≤ 4300) : PySem.intText? ((toString i : String) : Str) = some i := by
  cases i with
  | ofNat n =>
    have e := PySem.intText_digits (x := ((toString ((n : Nat) : Int) : String) : Str)) (by rw [num_pos]; exact digits_all n) (by rw [num_pos]; exact digits_ne n) h
    rw [num_pos, PySem.W.KIN.val_back] at e
    exact e
  | negSucc n =>
    have e := PySem.intText_neg (x := ((toString (Int.negSucc n) : String) : Str)) (num_neg n) (digits_all _) (digits_ne _) h
    rw [PySem.W.KIN.val_back] at e
    rw [e]
    congr 1
/-- a text out of codes -/
def mkS (p : List Nat) : Str := ⟨p.toArray⟩
theorem mkS_cps (p : List Nat) : (mkS p).cps.toList = p := rfl
theorem mkS_len (p : List Nat) : (mkS p).length = p.length := rfl
theorem mkS_of {z : Str} {p : List Nat} (h : z.cps.toList = p) : z = mkS p := by
  cases z
  subst h
  rfl
theorem mkS_self (z : Str) : mkS z.cps.toList = z := (mkS_of rfl).symm
end El

set_option Elab.async false
set_option linter.all false
set_option maxRecDepth 100000
set_option maxHeartbeats 4000000
namespace K14
open PySem PySem.Spec PyProof.Rows L2 El NdefX
def topS (i : Nat) : Stmt := PySem.Challenge.pw_elseput_k14_change_text_and_read.main.body.getD i (.Pass ⟨0, 0, 0, 0⟩)
abbrev s_is_name : Stmt := topS 16
theorem sc_is_name : FnScope ["text", "letter"] ["text"] (defScope s_is_name) := ⟨rfl, rfl, rfl, by decide +kernel, rfl, by decide +kernel, by decide +kernel⟩

abbrev s_split_line : Stmt := topS 17
theorem sc_split_line : FnScope ["line", "number", "found", "at", "end"] ["line", "number"] (defScope s_split_line) := ⟨rfl, rfl, rfl, by decide +kernel, rfl, by decide +kernel, by decide +kernel⟩

abbrev s_token_end : Stmt := topS 18
theorem sc_token_end : FnScope ["line", "at", "piece", "end"] ["line", "at"] (defScope s_token_end) := ⟨rfl, rfl, rfl, by decide +kernel, rfl, by decide +kernel, by decide +kernel⟩

abbrev s_run_end : Stmt := topS 19
theorem sc_run_end : FnScope ["line", "at", "characters", "end"] ["line", "at", "characters"] (defScope s_run_end) := ⟨rfl, rfl, rfl, by decide +kernel, rfl, by decide +kernel, by decide +kernel⟩

abbrev s_in_bound : Stmt := topS 23
theorem sc_in_bound : FnScope ["value"] ["value"] (defScope s_in_bound) := ⟨rfl, rfl, rfl, by decide +kernel, rfl, by decide +kernel, by decide +kernel⟩

abbrev s_check_name : Stmt := topS 24
theorem sc_check_name : FnScope ["text"] ["text"] (defScope s_check_name) := ⟨rfl, rfl, rfl, by decide +kernel, rfl, by decide +kernel, by decide +kernel⟩

abbrev s_check_number : Stmt := topS 25
theorem sc_check_number : FnScope ["value"] ["value"] (defScope s_check_number) := ⟨rfl, rfl, rfl, by decide +kernel, rfl, by decide +kernel, by decide +kernel⟩

abbrev s_is_integer : Stmt := topS 29
theorem sc_is_integer : FnScope ["token"] ["token"] (defScope s_is_integer) := ⟨rfl, rfl, rfl, by decide +kernel, rfl, by decide +kernel, by decide +kernel⟩

abbrev s_followed : Stmt := topS 33
theorem sc_followed : FnScope ["assignment", "later", "field", "deed", "number", "other", "later_deed", "later_number"] ["assignment", "later"] (defScope s_followed) := ⟨rfl, rfl, rfl, by decide +kernel, rfl, by decide +kernel, by decide +kernel⟩

abbrev s_parse_assignments : Stmt := topS 35
theorem sc_parse_assignments : FnScope ["reader", "parsed"] ["reader"] (defScope s_parse_assignments) := ⟨rfl, rfl, rfl, by decide +kernel, rfl, by decide +kernel, by decide +kernel⟩

abbrev s_parse_assignment : Stmt := topS 36
theorem sc_parse_assignment : FnScope ["reader", "deed", "field"] ["reader"] (defScope s_parse_assignment) := ⟨rfl, rfl, rfl, by decide +kernel, rfl, by decide +kernel, by decide +kernel⟩

abbrev s_build_change : Stmt := topS 37
theorem sc_build_change : FnScope ["parsed", "whole", "field", "deed", "number", "part"] ["parsed"] (defScope s_build_change) := ⟨rfl, rfl, rfl, by decide +kernel, rfl, by decide +kernel, by decide +kernel⟩

abbrev s__law_state : Stmt := topS 39
theorem sc__law_state : FnScope ["_law_script"] ["_law_script"] (defScope s__law_state) := ⟨rfl, rfl, rfl, by decide +kernel, rfl, by decide +kernel, by decide +kernel⟩

abbrev s__law_draw : Stmt := topS 40
theorem sc__law_draw : FnScope ["_law_state_here", "_law_many", "_law_first", "_law_second", "_law_third", "_law_digit"] ["_law_state_here", "_law_many"] (defScope s__law_draw) := ⟨rfl, rfl, rfl, by decide +kernel, rfl, by decide +kernel, by decide +kernel⟩

abbrev s__law_pick : Stmt := topS 41
theorem sc__law_pick : FnScope ["_law_state_here", "_law_row"] ["_law_state_here", "_law_row"] (defScope s__law_pick) := ⟨rfl, rfl, rfl, by decide +kernel, rfl, by decide +kernel, by decide +kernel⟩

abbrev s__law_mixed : Stmt := topS 42
theorem sc__law_mixed : FnScope ["_law_state_here", "_law_row", "_law_rest", "_law_result", "_law_k", "_law_at"] ["_law_state_here", "_law_row"] (defScope s__law_mixed) := ⟨rfl, rfl, rfl, by decide +kernel, rfl, by decide +kernel, by decide +kernel⟩

abbrev s__law_number : Stmt := topS 43
theorem sc__law_number : FnScope ["_law_state_here", "_law_kind"] ["_law_state_here"] (defScope s__law_number) := ⟨rfl, rfl, rfl, by decide +kernel, rfl, by decide +kernel, by decide +kernel⟩

abbrev s__law_constant : Stmt := topS 44
theorem sc__law_constant : FnScope ["_law_state_here"] ["_law_state_here"] (defScope s__law_constant) := ⟨rfl, rfl, rfl, by decide +kernel, rfl, by decide +kernel, by decide +kernel⟩

abbrev s__law_names : Stmt := topS 45
theorem sc__law_names : FnScope ["_law_state_here", "_law_many", "_law_letters", "_law_style", "_law_shift", "_law_code", "_law_spot", "_law_base", "_law_k", "_law_reserved", "_law_result", "_law_word"] ["_law_state_here", "_law_many"] (defScope s__law_names) := ⟨rfl, rfl, rfl, by decide +kernel, rfl, by decide +kernel, by decide +kernel⟩

abbrev s__law_is_int : Stmt := topS 46
theorem sc__law_is_int : FnScope ["_law_thing"] ["_law_thing"] (defScope s__law_is_int) := ⟨rfl, rfl, rfl, by decide +kernel, rfl, by decide +kernel, by decide +kernel⟩

abbrev s__law_same : Stmt := topS 47
theorem sc__law_same : FnScope ["_law_actual", "_law_due", "_law_k", "_law_key"] ["_law_actual", "_law_due"] (defScope s__law_same) := ⟨rfl, rfl, rfl, by decide +kernel, rfl, by decide +kernel, by decide +kernel⟩

abbrev s__law_change : Stmt := topS 48
theorem sc__law_change : FnScope ["_law_rows", "_law_result", "_law_row"] ["_law_rows"] (defScope s__law_change) := ⟨rfl, rfl, rfl, by decide +kernel, rfl, by decide +kernel, by decide +kernel⟩

abbrev s__law_rows_text : Stmt := topS 49
theorem sc__law_rows_text : FnScope ["_law_rows", "_law_row"] ["_law_rows"] (defScope s__law_rows_text) := ⟨rfl, rfl, rfl, by decide +kernel, rfl, by decide +kernel, by decide +kernel⟩

abbrev s__law_some_rows : Stmt := topS 50
theorem sc__law_some_rows : FnScope ["_law_state_here", "_law_fields", "_law_rows", "_law_field"] ["_law_state_here", "_law_fields"] (defScope s__law_some_rows) := ⟨rfl, rfl, rfl, by decide +kernel, rfl, by decide +kernel, by decide +kernel⟩

abbrev s__law_chained : Stmt := topS 51
theorem sc__law_chained : FnScope ["_law_first", "_law_second", "_law_result", "_law_row", "_law_names_here", "_law_joined", "_law_other"] ["_law_first", "_law_second"] (defScope s__law_chained) := ⟨rfl, rfl, rfl, by decide +kernel, rfl, by decide +kernel, by decide +kernel⟩

abbrev s__law_touch : Stmt := topS 52
theorem sc__law_touch : FnScope ["_law_one", "_law_two", "_law_letters", "_law_digits"] ["_law_one", "_law_two"] (defScope s__law_touch) := ⟨rfl, rfl, rfl, by decide +kernel, rfl, by decide +kernel, by decide +kernel⟩

abbrev s__law_laid : Stmt := topS 53
theorem sc__law_laid : FnScope ["_law_state_here", "_law_pieces", "_law_line", "_law_columns", "_law_code", "_law_k", "_law_gap"] ["_law_state_here", "_law_pieces"] (defScope s__law_laid) := ⟨rfl, rfl, rfl, by decide +kernel, rfl, by decide +kernel, by decide +kernel⟩

abbrev s__law_read_it : Stmt := topS 54
theorem sc__law_read_it : FnScope ["_law_line", "e"] ["_law_line"] (defScope s__law_read_it) := ⟨rfl, rfl, rfl, by decide +kernel, rfl, by decide +kernel, by decide +kernel⟩

abbrev s__law_words : Stmt := topS 55
theorem sc__law_words : FnScope ["_law_rows", "_law_words_here", "_law_row"] ["_law_rows"] (defScope s__law_words) := ⟨rfl, rfl, rfl, by decide +kernel, rfl, by decide +kernel, by decide +kernel⟩

abbrev s__law_folded : Stmt := topS 56
theorem sc__law_folded : FnScope ["_law_rows", "_law_result", "_law_row"] ["_law_rows"] (defScope s__law_folded) := ⟨rfl, rfl, rfl, by decide +kernel, rfl, by decide +kernel, by decide +kernel⟩

abbrev s__law_lets : Stmt := topS 57
theorem sc__law_lets : FnScope ["_law_state_here", "_law_rows", "_law_line", "_law_columns"] ["_law_state_here", "_law_rows"] (defScope s__law_lets) := ⟨rfl, rfl, rfl, by decide +kernel, rfl, by decide +kernel, by decide +kernel⟩

abbrev s__law_asks : Stmt := topS 58
theorem sc__law_asks : FnScope ["_law_state_here", "_law_words_here", "_law_at", "_law_line", "_law_columns"] ["_law_state_here", "_law_words_here", "_law_at"] (defScope s__law_asks) := ⟨rfl, rfl, rfl, by decide +kernel, rfl, by decide +kernel, by decide +kernel⟩

abbrev s__law_unfit : Stmt := topS 59
theorem sc__law_unfit : FnScope ["_law_at", "_law_far"] ["_law_at"] (defScope s__law_unfit) := ⟨rfl, rfl, rfl, by decide +kernel, rfl, by decide +kernel, by decide +kernel⟩

abbrev s__law_spoils : Stmt := topS 60
theorem sc__law_spoils : FnScope ["_law_state_here", "_law_words_here", "_law_i", "_law_others", "_law_at", "_law_k", "_law_spot", "_law_spoiled"] ["_law_state_here", "_law_words_here", "_law_i"] (defScope s__law_spoils) := ⟨rfl, rfl, rfl, by decide +kernel, rfl, by decide +kernel, by decide +kernel⟩

abbrev s_law : Stmt := topS 61
theorem sc_law : FnScope ["_law_script", "_law_state_here", "_law_names_here", "_law_rows", "_law_made", "_law_text", "_law_some", "_law_k", "_law_four", "_law_words_here"] ["_law_script"] (defScope s_law) := ⟨rfl, rfl, rfl, by decide +kernel, rfl, by decide +kernel, by decide +kernel⟩

abbrev s_Reader___init__ : Stmt := mthS (topS 30) 0
theorem sc_Reader___init__ : FnScope ["self", "line", "number"] ["self", "line", "number"] (defScope s_Reader___init__) := ⟨rfl, rfl, rfl, by decide +kernel, rfl, by decide +kernel, by decide +kernel⟩

abbrev s_Reader_at_end : Stmt := mthS (topS 30) 1
theorem sc_Reader_at_end : FnScope ["self"] ["self"] (defScope s_Reader_at_end) := ⟨rfl, rfl, rfl, by decide +kernel, rfl, by decide +kernel, by decide +kernel⟩

abbrev s_Reader_ahead : Stmt := mthS (topS 30) 2
theorem sc_Reader_ahead : FnScope ["self"] ["self"] (defScope s_Reader_ahead) := ⟨rfl, rfl, rfl, by decide +kernel, rfl, by decide +kernel, by decide +kernel⟩

abbrev s_Reader_skip : Stmt := mthS (topS 30) 3
theorem sc_Reader_skip : FnScope ["self", "token"] ["self", "token"] (defScope s_Reader_skip) := ⟨rfl, rfl, rfl, by decide +kernel, rfl, by decide +kernel, by decide +kernel⟩

abbrev s_Reader_take_name : Stmt := mthS (topS 30) 4
theorem sc_Reader_take_name : FnScope ["self"] ["self"] (defScope s_Reader_take_name) := ⟨rfl, rfl, rfl, by decide +kernel, rfl, by decide +kernel, by decide +kernel⟩

abbrev s_Reader_take_integer : Stmt := mthS (topS 30) 5
theorem sc_Reader_take_integer : FnScope ["self"] ["self"] (defScope s_Reader_take_integer) := ⟨rfl, rfl, rfl, by decide +kernel, rfl, by decide +kernel, by decide +kernel⟩

abbrev s_Reader_take_one : Stmt := mthS (topS 30) 7
theorem sc_Reader_take_one : FnScope ["self", "words"] ["self", "words"] (defScope s_Reader_take_one) := ⟨rfl, rfl, rfl, by decide +kernel, rfl, by decide +kernel, by decide +kernel⟩

abbrev s_Reader_take_end : Stmt := mthS (topS 30) 8
theorem sc_Reader_take_end : FnScope ["self"] ["self"] (defScope s_Reader_take_end) := ⟨rfl, rfl, rfl, by decide +kernel, rfl, by decide +kernel, by decide +kernel⟩

abbrev s_Reader__take_if : Stmt := mthS (topS 30) 9
theorem sc_Reader__take_if : FnScope ["self", "fits", "token"] ["self", "fits"] (defScope s_Reader__take_if) := ⟨rfl, rfl, rfl, by decide +kernel, rfl, by decide +kernel, by decide +kernel⟩

abbrev s_Reader__refuse : Stmt := mthS (topS 30) 10
theorem sc_Reader__refuse : FnScope ["self", "column"] ["self"] (defScope s_Reader__refuse) := ⟨rfl, rfl, rfl, by decide +kernel, rfl, by decide +kernel, by decide +kernel⟩

abbrev s_Change___init__ : Stmt := mthS (topS 32) 1
theorem sc_Change___init__ : FnScope ["self", "assignments"] ["self", "assignments"] (defScope s_Change___init__) := ⟨rfl, rfl, rfl, by decide +kernel, rfl, by decide +kernel, by decide +kernel⟩

abbrev s_Change_none : Stmt := mthS (topS 32) 2
theorem sc_Change_none : FnScope [] [] (defScope s_Change_none) := ⟨rfl, rfl, rfl, by decide +kernel, rfl, by decide +kernel, by decide +kernel⟩

abbrev s_Change_adding : Stmt := mthS (topS 32) 3
theorem sc_Change_adding : FnScope ["field", "number"] ["field", "number"] (defScope s_Change_adding) := ⟨rfl, rfl, rfl, by decide +kernel, rfl, by decide +kernel, by decide +kernel⟩

abbrev s_Change_setting : Stmt := mthS (topS 32) 4
theorem sc_Change_setting : FnScope ["field", "number"] ["field", "number"] (defScope s_Change_setting) := ⟨rfl, rfl, rfl, by decide +kernel, rfl, by decide +kernel, by decide +kernel⟩

abbrev s_Change_read : Stmt := mthS (topS 32) 5
theorem sc_Change_read : FnScope ["line", "reader", "parsed"] ["line"] (defScope s_Change_read) := ⟨rfl, rfl, rfl, by decide +kernel, rfl, by decide +kernel, by decide +kernel⟩

abbrev s_Change_assigned : Stmt := mthS (topS 32) 6
theorem sc_Change_assigned : FnScope ["self", "part"] ["self"] (defScope s_Change_assigned) := ⟨rfl, rfl, rfl, by decide +kernel, rfl, by decide +kernel, by decide +kernel⟩

abbrev s_Change_text : Stmt := mthS (topS 32) 7
theorem sc_Change_text : FnScope ["self", "field", "deed", "number"] ["self"] (defScope s_Change_text) := ⟨rfl, rfl, rfl, by decide +kernel, rfl, by decide +kernel, by decide +kernel⟩

abbrev s_Change___rshift__ : Stmt := mthS (topS 32) 10
theorem sc_Change___rshift__ : FnScope ["self", "other", "both", "new", "part"] ["self", "other"] (defScope s_Change___rshift__) := ⟨rfl, rfl, rfl, by decide +kernel, rfl, by decide +kernel, by decide +kernel⟩

abbrev s_BadName : Stmt := mthS (topS 3) 0
theorem sc_BadName : NdefX.NScope ["self", "name", "__class__"] ["self", "name"] ["__class__"] (defScope s_BadName) := NdefX.nscope_by (by decide +kernel)
abbrev s_BadNumber : Stmt := mthS (topS 4) 0
theorem sc_BadNumber : NdefX.NScope ["self", "value", "__class__"] ["self", "value"] ["__class__"] (defScope s_BadNumber) := NdefX.nscope_by (by decide +kernel)
abbrev s_BadText : Stmt := mthS (topS 5) 0
theorem sc_BadText : NdefX.NScope ["self", "line", "column", "__class__"] ["self", "line", "column"] ["__class__"] (defScope s_BadText) := NdefX.nscope_by (by decide +kernel)
abbrev s_TooLarge : Stmt := mthS (topS 6) 0
theorem sc_TooLarge : NdefX.NScope ["self", "most", "__class__"] ["self", "most"] ["__class__"] (defScope s_TooLarge) := NdefX.nscope_by (by decide +kernel)
abbrev s_UnknownName : Stmt := mthS (topS 7) 0
theorem sc_UnknownName : NdefX.NScope ["self", "name", "__class__"] ["self", "name"] ["__class__"] (defScope s_UnknownName) := NdefX.nscope_by (by decide +kernel)
section
variable {P : Program} {w : World} {K : PySem.W.Frag} {mg : Str → Option Value} {base : Heap}
variable {t_BOUND t_DIGITS t_LETTERS t_LONGEST_INTEGER t_LONGEST_NAME : Tok} {a_MARKS a_RESERVED a_SIGNS a_BadName a_BadNumber a_BadText a_Change a_ElseputError a_Reader a_TooLarge : Addr}
structure Gs (K : PySem.W.Frag) (mg : Str → Option Value) (t_BOUND t_DIGITS t_LETTERS t_LONGEST_INTEGER t_LONGEST_NAME : Tok) (a_MARKS a_RESERVED a_SIGNS a_BadName a_BadNumber a_BadText a_Change a_ElseputError a_Reader a_TooLarge : Addr) : Prop where
  z_ValueError : mg "ValueError" = none
  z_all : mg "all" = none
  z_bool : mg "bool" = none
  z_dict : mg "dict" = none
  z_int : mg "int" = none
  z_isinstance : mg "isinstance" = none
  z_len : mg "len" = none
  z_list : mg "list" = none
  z_property : mg "property" = none
  z_range : mg "range" = none
  z_staticmethod : mg "staticmethod" = none
  z_str : mg "str" = none
  z_super : mg "super" = none
  z_tuple : mg "tuple" = none
  g_BOUND : mg "BOUND" = some (.int 1000000000000000000000000000000 t_BOUND)
  g_DIGITS : mg "DIGITS" = some (.str "0123456789" t_DIGITS)
  g_LETTERS : mg "LETTERS" = some (.str "abcdefghijklmnopqrstuvwxyz" t_LETTERS)
  g_LONGEST_INTEGER : mg "LONGEST_INTEGER" = some (.int 32 t_LONGEST_INTEGER)
  g_LONGEST_NAME : mg "LONGEST_NAME" = some (.int 12 t_LONGEST_NAME)
  g_MARKS : mg "MARKS" = some (.ref a_MARKS)
  q_MARKS : ∀ H, SqT K H a_MARKS [(.str "("), (.str ")"), (.str ","), (.str ";"), (.str ":")]
  g_RESERVED : mg "RESERVED" = some (.ref a_RESERVED)
  q_RESERVED : ∀ H, SqT K H a_RESERVED [(.str "always"), (.str "never"), (.str "and"), (.str "or"), (.str "not"), (.str "when"), (.str "add"), (.str "set"), (.str "change"), (.str "tell"), (.str "refuse"), (.str "take"), (.str "look"), (.str "free"), (.str "lock"), (.str "keep"), (.str "keys"), (.str "fields")]
  g_SIGNS : mg "SIGNS" = some (.ref a_SIGNS)
  q_SIGNS : ∀ H, SqT K H a_SIGNS [(.str "<"), (.str "<="), (.str "=="), (.str "!="), (.str ">="), (.str ">")]
  g_BadName : mg "BadName" = some (.ref a_BadName)
  n_BadName : PySem.W.nsIn K mainGlobals "BadName" = some (some (.ref a_BadName))
  x_BadName : ExV K a_BadName ["name"]
  g_BadNumber : mg "BadNumber" = some (.ref a_BadNumber)
  n_BadNumber : PySem.W.nsIn K mainGlobals "BadNumber" = some (some (.ref a_BadNumber))
  x_BadNumber : ExV K a_BadNumber ["value"]
  g_BadText : mg "BadText" = some (.ref a_BadText)
  n_BadText : PySem.W.nsIn K mainGlobals "BadText" = some (some (.ref a_BadText))
  x_BadText : ExV K a_BadText ["line", "column"]
  g_Change : mg "Change" = some (.ref a_Change)
  n_Change : PySem.W.nsIn K mainGlobals "Change" = some (some (.ref a_Change))
  g_ElseputError : mg "ElseputError" = some (.ref a_ElseputError)
  n_ElseputError : PySem.W.nsIn K mainGlobals "ElseputError" = some (some (.ref a_ElseputError))
  g_Reader : mg "Reader" = some (.ref a_Reader)
  n_Reader : PySem.W.nsIn K mainGlobals "Reader" = some (some (.ref a_Reader))
  g_TooLarge : mg "TooLarge" = some (.ref a_TooLarge)
  n_TooLarge : PySem.W.nsIn K mainGlobals "TooLarge" = some (some (.ref a_TooLarge))
  x_TooLarge : ExV K a_TooLarge ["most"]
  cl_Reader : Cls K a_Reader
  na_Reader__at : NoAttr K a_Reader "_at"
  na_Reader__end : NoAttr K a_Reader "_end"
  na_Reader__number : NoAttr K a_Reader "_number"
  na_Reader__parts : NoAttr K a_Reader "_parts"
  rd_Reader : ClX.CRead K a_Reader (.type "type")
  cl_Change : Cls K a_Change
  na_Change_assignments : NoAttr K a_Change "assignments"
  cv_Change_MOST : ∃ u, ClX.CVal K a_Change (.type "type") "MOST" (.int 3) u
  rd_Change : ClX.CRead K a_Change (.type "type")
  m_BadText_ElseputError : PySem.W.exmOne K (.ref a_BadText) (.ref a_ElseputError) = some true
  m_TooLarge_ElseputError : PySem.W.exmOne K (.ref a_TooLarge) (.ref a_ElseputError) = some true
  k_BadText_BadText : PySem.W.kitOne K (.ref a_BadText) (.ref a_BadText) = some true
  k_BadText_ValueError : PySem.W.kitOne K (.ref a_BadText) (.type "ValueError") = some true
  k_BadText_TooLarge : PySem.W.kitOne K (.ref a_BadText) (.ref a_TooLarge) = some false
  k_TooLarge_BadText : PySem.W.kitOne K (.ref a_TooLarge) (.ref a_BadText) = some false
  k_TooLarge_ValueError : PySem.W.kitOne K (.ref a_TooLarge) (.type "ValueError") = some true
  k_TooLarge_TooLarge : PySem.W.kitOne K (.ref a_TooLarge) (.ref a_TooLarge) = some true
/-! ### the script's state -/
def stv (scr : Addr) (i v m c : Int) : List V := [.ref scr, .int i, .int v, .int m, .int c]
def DrAt (H : Hp) (st scr : Addr) : Prop := ∃ (ns : List Int) (i v m c : Int), H st = some (.lst (stv scr i v m c)) ∧ H scr = some (.lst (ns.map V.int)) ∧ ns.length ≤ 63 ∧ 0 ≤ i
theorem DrAt.ne {H : Hp} {st scr : Addr} {ns : List Int} {i v m c : Int} (h : H st = some (.lst (stv scr i v m c))) (h2 : H scr = some (.lst (ns.map V.int))) : scr ≠ st := by
  refine ne_of h2 h fun e => ?_
  injection e with e
  cases ns with
  | nil => simp [stv] at e
  | cons a r => simp [stv] at e
theorem DrAt.upd {H : Hp} {st scr : Addr} {ns : List Int} {i v m c i' v' m' c' : Int} (h : H st = some (.lst (stv scr i v m c))) (h2 : H scr = some (.lst (ns.map V.int))) (hl : ns.length ≤ 63) (h0 : 0 ≤ i') : DrAt (upd H st (.lst (stv scr i' v' m' c'))) st scr :=
  ⟨ns, i', v', m', c', upd_same, by rw [upd_ne (DrAt.ne h h2)]; exact h2, hl, h0⟩
theorem upd_id {H : Hp} {a : Addr} {o : HO} (h : H a = some o) : upd H a o = H := by
  funext b
  unfold L2.upd
  split
  · rename_i e; rw [e, h]
  · rfl
theorem DrAt.lst {H : Hp} {st scr : Addr} (h : DrAt H st scr) : ∃ l, H st = some (.lst l) := by
  obtain ⟨ns, i, v, m, c, h, _⟩ := h
  exact ⟨_, h⟩
theorem DrAt.new {H H' : Hp} {st scr : Addr} (h : DrAt H st scr) (s : Same H H') : DrAt H' st scr := by
  obtain ⟨ns, i, v, m, c, h1, h2, h3⟩ := h
  exact ⟨ns, i, v, m, c, s _ _ h1, s _ _ h2, h3⟩
theorem DrAt.at {H : Hp} {st scr p : Addr} {o : HO} (h : DrAt H st scr) (h1 : p ≠ st) (h2 : p ≠ scr) : DrAt (L2.upd H p o) st scr := by
  obtain ⟨ns, i, v, m, c, e1, e2, h3⟩ := h
  exact ⟨ns, i, v, m, c, by rw [upd_ne h1.symm]; exact e1, by rw [upd_ne h2.symm]; exact e2, h3⟩
theorem same_new {H : Hp} {p : Addr} {o : HO} (h : H p = none) : Same H (upd H p o) := fun b u q => by rw [upd_ne (ne_of_none q h)]; exact q
theorem free_new {H : Hp} {p q : Addr} {o : HO} (h : upd H p o q = none) : H q = none := by
  unfold L2.upd at h
  split at h
  · cases h
  · exact h
theorem new_ne {H : Hp} {p q : Addr} {o : HO} (h : upd H p o q = none) : q ≠ p := fun e => by rw [e, upd_same] at h; cases h
theorem len_add (a b : Str) : (a ++ b).length = a.length + b.length := by
  show (a.cps ++ b.cps).size = _
  rw [Array.size_append]
  rfl
theorem cps_add (a b : Str) : (a ++ b).cps.toList = a.cps.toList ++ b.cps.toList := by
  show (a.cps ++ b.cps).toList = _
  rw [Array.toList_append]
theorem len_cps (z : Str) : z.cps.toList.length = z.length := Array.length_toList
theorem line_of {n : Nat} (h : n ≤ 100000) : n ≤ sizeLine := Nat.le_trans h (by decide)
theorem line_lt {n : Nat} (h : n < 100000) : n < sizeLine := Nat.lt_of_lt_of_le h (by decide)
/-- all that stood stands, st's own numbers aside -/
def Bt (st : Addr) (H H' : Hp) : Prop := ∀ b o, b ≠ st → H b = some o → H' b = some o
theorem Bt.refl (st : Addr) (H : Hp) : Bt st H H := fun _ _ _ h => h
theorem Bt.trans {st : Addr} {H H1 H2 : Hp} (a : Bt st H H1) (b : Bt st H1 H2) : Bt st H H2 := fun c o n h => b c o n (a c o n h)
theorem Bt.same {st : Addr} {H H' : Hp} (s : Same H H') : Bt st H H' := fun b o _ h => s b o h
theorem Bt.st {st : Addr} {H : Hp} {o : HO} : Bt st H (upd H st o) := fun b u n h => by rw [upd_ne n]; exact h
theorem Bt.free {st : Addr} {H H' : Hp} (s : Bt st H H') {l : Addr} (n : l ≠ st) (h : H' l = none) : H l = none := by
  cases q : H l with
  | none => rfl
  | some o => rw [s l o n q] at h; cases h
theorem DrAt.ne_new {H : Hp} {st scr p : Addr} (h : DrAt H st scr) (n : H p = none) : p ≠ st := by
  obtain ⟨l, e⟩ := h.lst
  exact (ne_of_none e n).symm

theorem DrAt.ne_scr {H : Hp} {st scr p : Addr} (h : DrAt H st scr) (n : H p = none) : p ≠ scr := by
  obtain ⟨ns, i, v, m, c, e1, e2, h3⟩ := h
  exact (ne_of_none e2 n).symm

/-! ### is_name -/
abbrev letters : Str := "abcdefghijklmnopqrstuvwxyz"
abbrev resv : List V := [.str "always", .str "never", .str "and", .str "or", .str "not", .str "when", .str "add", .str "set", .str "change", .str "tell", .str "refuse", .str "take", .str "look", .str "free", .str "lock", .str "keep", .str "keys", .str "fields"]
def isName (z : Str) : Bool := if (decide ((z.length : Int) < 1) || decide ((12 : Int) < z.length) || inV (.str z) resv) = true then false else z.cps.toList.all fun c => decide (c ∈ letters.cps.toList)
def sp_is_name (K : PySem.W.Frag) : Sp := fun vs H Q _ => ∃ z : Str, vs = [.str z] ∧ z.length ≤ 1000 ∧ ∀ H', Same H H' → Q (.bl (isName z)) H'
theorem len_is_name {vs : List V} {H : Hp} {Q : VK} {E : XK} (h : sp_is_name K vs H Q E) : vs.length = 1 := by
  obtain ⟨_, rfl, _⟩ := h
  rfl
theorem ok_is_name {f : Addr} {fd : FuncData} (F : Fun K "is_name" "is_name" s_is_name f fd) (T : Gs K mg t_BOUND t_DIGITS t_LETTERS t_LONGEST_INTEGER t_LONGEST_NAME a_MARKS a_RESERVED a_SIGNS a_BadName a_BadNumber a_BadText a_Change a_ElseputError a_Reader a_TooLarge) : FnOk P w K mg base CX0 1 f fd ["text"] (sp_is_name K) := by
  refine F.ok sc_is_name (fun vs H Q E h => len_is_name h) (fun cdv A outer s H vs Q E hr h => ?_)
  obtain ⟨z, rfl, h0, q⟩ := h
  refine ⟨_, (pss_cons (ps_if (PW.pt (pw_or (pt_c op_ltM (pe_callB (lenK K) (by rfl) T.z_len PySem.boot_len (pa_cons (v_ 0) pa_nil)) pe_int) (pw_or (pt_c op_gtM (pe_callB (lenK K) (by rfl) T.z_len PySem.boot_len (pa_cons (v_ 0) pa_nil)) (pe_glob (v := .int 12) rfl T.g_LONGEST_NAME ⟨_, rfl⟩)) (pw_or1 (pt_c (inK K) (v_ 0) (pe_glob (v := .ref a_RESERVED) rfl T.g_RESERVED rfl)))))) (pss_one (ps_ret pe_bl)) pss_nil) (pss_one (ps_ret (pe_callB (allK K rfl) (by rfl) T.z_all (by decide +kernel) (pa_cons (pe_lc (own := [("letter", 1)]) (g := gName 1) (by rfl) sc_is_name.nd (pi_str (v_ 0)) (blkOk_by (N := ["text", "letter"]) (sc := defScope s_is_name) (by decide +kernel)) (fun _ _ _ _ _ => pg_name (i := 1) sc_is_name.nd rfl (Or.inl rfl)) (fun _ _ _ _ _ => pts_nil) (fun _ _ _ _ _ => (pe_c (inK K) (v_ 1) (pe_glob (v := .str "abcdefghijklmnopqrstuvwxyz") rfl T.g_LETTERS ⟨_, rfl⟩)))) pa_nil))))), ?_⟩
  refine ⟨line_of (by omega), ?_⟩
  have no : ∀ c : Bool, (decide ((z.length : Int) < 1) || decide ((12 : Int) < z.length) || inV (.str z) resv) = c → isName z = if c = true then false else z.cps.toList.all fun c => decide (c ∈ letters.cps.toList) := fun c e => by
    rw [← e]; rfl
  refine ite2 (fun e => ?_) (fun e => ?_)
  · have := q H (Same.refl H)
    rw [no true (by rw [show decide ((z.length : Int) < 1) = true from e]; rfl)] at this
    exact this
  refine ⟨line_of (by omega), ?_⟩
  refine ite2 (fun e1 => ?_) (fun e1 => ?_)
  · have := q H (Same.refl H)
    rw [no true (by rw [show decide ((12 : Int) < z.length) = true from e1, Bool.or_true]; rfl)] at this
    exact this
  refine ⟨_, .inr (T.q_RESERVED _), rfl, rfl, ?_⟩
  refine ite2 (fun e2 => ?_) (fun e2 => ?_)
  · have := q H (Same.refl H)
    rw [no true (by rw [show inV (.str z) resv = true from e2, Bool.or_true])] at this
    exact this
  have en : isName z = z.cps.toList.all fun c => decide (c ∈ letters.cps.toList) := by
    rw [no false (by rw [show decide ((z.length : Int) < 1) = false from Bool.eq_false_iff.mpr e, show decide ((12 : Int) < z.length) = false from Bool.eq_false_iff.mpr e1, show inV (.str z) resv = false from Bool.eq_false_iff.mpr e2]; rfl)]
    rfl
  refine ⟨z, rfl, fun D nD => lc_it walk_str (fun i H' => H' = upd H D (.lst (((z.cps.toList.take i).map fun c => decide (c ∈ letters.cps.toList)).map V.bl))) rfl (fun _ _ _ _ => True.intro) ?_ ?_⟩
  · rintro i x H1 H2 hi rfl ⟨rfl, c, hc, rfl⟩
    refine ⟨rfl, ?_⟩
    refine ⟨c, rfl, _, upd_same, ?_, ?_⟩
    · rw [List.length_map, List.length_map, List.length_take]
      have : z.cps.size = z.length := rfl
      exact small1000 (by omega)
    · rw [upd_upd]
      have e : z.cps.toList.take (i + 1) = z.cps.toList.take i ++ [c] := by
        rw [List.take_add_one, Array.getElem?_toList, hc]
        rfl
      rw [e, List.map_append, List.map_append]
      rfl
  · rintro H1 rfl
    rw [show z.cps.size = z.cps.toList.length from (Array.length_toList).symm, List.take_length]
    refine ⟨_, _, rfl, SqL.of upd_same, ?_⟩
    have := q _ (same_new nD (o := .lst ((z.cps.toList.map fun c => decide (c ∈ letters.cps.toList)).map V.bl)))
    rw [en] at this
    rw [List.all_map]
    exact this


end
section
variable {P : Program} {w : World} {K : PySem.W.Frag} {mg : Str → Option Value} {base : Heap}
variable {t_BOUND t_DIGITS t_LETTERS t_LONGEST_INTEGER t_LONGEST_NAME : Tok} {a_MARKS a_RESERVED a_SIGNS a_BadName a_BadNumber a_BadText a_Change a_ElseputError a_Reader a_TooLarge : Addr}
/-! ### checks -/
def inB (i : Int) : Bool := decide (-1000000000000000000000000000000 ≤ i) && decide (i ≤ 1000000000000000000000000000000)
theorem inB_of {i : Int} (h0 : -1000000000000000000000000000000 ≤ i) (h1 : i ≤ 1000000000000000000000000000000) : inB i = true := by
  unfold inB
  rw [decide_eq_true h0, decide_eq_true h1]
  rfl
def sp_in_bound (K : PySem.W.Frag) : Sp := fun vs H Q _ => ∃ i : Int, vs = [.int i] ∧ Q (.bl (inB i)) H
theorem len_in_bound {vs : List V} {H : Hp} {Q : VK} {E : XK} (h : sp_in_bound K vs H Q E) : vs.length = 1 := by
  obtain ⟨_, rfl, _⟩ := h
  rfl
theorem ok_in_bound {f : Addr} {fd : FuncData} (F : Fun K "in_bound" "in_bound" s_in_bound f fd) (T : Gs K mg t_BOUND t_DIGITS t_LETTERS t_LONGEST_INTEGER t_LONGEST_NAME a_MARKS a_RESERVED a_SIGNS a_BadName a_BadNumber a_BadText a_Change a_ElseputError a_Reader a_TooLarge) : FnOk P w K mg base CX0 1 f fd ["value"] (sp_in_bound K) := by
  refine F.ok sc_in_bound (fun vs H Q E h => len_in_bound h) (fun cdv A outer s H vs Q E hr h => ?_)
  obtain ⟨i, rfl, q⟩ := h
  refine ⟨_, (pss_one (ps_ret (pe_chain op_leM op_leM (pe_un un_negM (pe_glob (v := .int 1000000000000000000000000000000) rfl T.g_BOUND ⟨_, rfl⟩)) (v_ 0) (pe_glob (v := .int 1000000000000000000000000000000) rfl T.g_BOUND ⟨_, rfl⟩)))), ?_⟩
  refine ⟨_, rfl, ?_⟩
  unfold inB at q
  refine ite2 (fun e => ?_) (fun e => ?_)
  · have e : decide (-1000000000000000000000000000000 ≤ i) = true := e
    rw [e, Bool.true_and] at q
    exact q
  · have e : decide (-1000000000000000000000000000000 ≤ i) = false := Bool.eq_false_iff.mpr e
    rw [e, Bool.false_and] at q
    exact q
def sp_check_name (K : PySem.W.Frag) : Sp := fun vs H Q _ => ∃ z : Str, vs = [.str z] ∧ z.length ≤ 1000 ∧ isName z = true ∧ ∀ H', Same H H' → Q .non H'
theorem len_check_name {vs : List V} {H : Hp} {Q : VK} {E : XK} (h : sp_check_name K vs H Q E) : vs.length = 1 := by
  obtain ⟨_, rfl, _⟩ := h
  rfl
theorem ok_check_name {f : Addr} {fd : FuncData} {f_is_name : Addr} {fd_is_name : FuncData} (F : Fun K "check_name" "check_name" s_check_name f fd) (T : Gs K mg t_BOUND t_DIGITS t_LETTERS t_LONGEST_INTEGER t_LONGEST_NAME a_MARKS a_RESERVED a_SIGNS a_BadName a_BadNumber a_BadText a_Change a_ElseputError a_Reader a_TooLarge) (c_is_name : Cal P w K mg base CX0 1 "is_name" f_is_name fd_is_name ["text"] (sp_is_name K)) : FnOk P w K mg base CX0 3 f fd ["text"] (sp_check_name K) := by
  refine F.ok sc_check_name (fun vs H Q E h => len_check_name h) (fun cdv A outer s H vs Q E hr h => ?_)
  obtain ⟨z, rfl, h0, h1, q⟩ := h
  refine ⟨_, (pss_one (ps_if (pt_not (pt_t K (pe_call c_is_name.G (hr.mono (by first | decide | omega)) rfl c_is_name.m c_is_name.kp c_is_name.b .nil pass0 (pa_cons (v_ 0) pa_nil)))) (pss_one ps_never) pss_nil)), ?_⟩
  refine ⟨z, rfl, h0, fun H' s => ?_⟩
  rw [h1]
  exact q H' s
def sp_check_number (K : PySem.W.Frag) : Sp := fun vs H Q _ => ∃ i : Int, vs = [.int i] ∧ -1000000000000000000000000000000 ≤ i ∧ i ≤ 1000000000000000000000000000000 ∧ Q .non H
theorem len_check_number {vs : List V} {H : Hp} {Q : VK} {E : XK} (h : sp_check_number K vs H Q E) : vs.length = 1 := by
  obtain ⟨_, rfl, _⟩ := h
  rfl
theorem ok_check_number {f : Addr} {fd : FuncData} {f_in_bound : Addr} {fd_in_bound : FuncData} (F : Fun K "check_number" "check_number" s_check_number f fd) (T : Gs K mg t_BOUND t_DIGITS t_LETTERS t_LONGEST_INTEGER t_LONGEST_NAME a_MARKS a_RESERVED a_SIGNS a_BadName a_BadNumber a_BadText a_Change a_ElseputError a_Reader a_TooLarge) (c_in_bound : Cal P w K mg base CX0 1 "in_bound" f_in_bound fd_in_bound ["value"] (sp_in_bound K)) : FnOk P w K mg base CX0 3 f fd ["value"] (sp_check_number K) := by
  refine F.ok sc_check_number (fun vs H Q E h => len_check_number h) (fun cdv A outer s H vs Q E hr h => ?_)
  obtain ⟨i, rfl, h0, h1, q⟩ := h
  refine ⟨_, (pss_one (ps_if (pt_not (pt_t K (pe_call c_in_bound.G (hr.mono (by first | decide | omega)) rfl c_in_bound.m c_in_bound.kp c_in_bound.b .nil pass0 (pa_cons (v_ 0) pa_nil)))) (pss_one ps_never) pss_nil)), ?_⟩
  refine ⟨i, rfl, ?_⟩
  rw [inB_of h0 h1]
  exact q
/-! ### changes -/
structure Rw where
  f : Str
  add : Bool
  n : Int
def deed (b : Bool) : Str := if b then "add" else "set"
def RowAt (H : Hp) (r : Addr) (x : Rw) : Prop := H r = some (.tup [.str x.f, .str (deed x.add), .int x.n])
def RowsL (H : Hp) : List Addr → List Rw → Prop
  | [], [] => True
  | r :: rs, x :: xs => RowAt H r x ∧ RowsL H rs xs
  | _, _ => False
theorem RowsL.same {H H' : Hp} (s : Same H H') : ∀ {rs : List Addr} {xs : List Rw}, RowsL H rs xs → RowsL H' rs xs
  | [], [], _ => trivial
  | _ :: _, _ :: _, ⟨h, t⟩ => ⟨s _ _ h, RowsL.same s t⟩
theorem RowsL.len {H : Hp} : ∀ {rs : List Addr} {xs : List Rw}, RowsL H rs xs → rs.length = xs.length
  | [], [], _ => rfl
  | _ :: _, _ :: _, ⟨_, h⟩ => by rw [List.length_cons, List.length_cons, h.len]
theorem RowsL.app {H : Hp} : ∀ {rs ts : List Addr} {xs ys : List Rw}, RowsL H rs xs → RowsL H ts ys → RowsL H (rs ++ ts) (xs ++ ys)
  | [], _, [], _, _, h => h
  | _ :: _, _, _ :: _, _, ⟨h1, h⟩, h2 => ⟨h1, RowsL.app h h2⟩
theorem RowsL.get {H : Hp} : ∀ {rs : List Addr} {xs : List Rw}, RowsL H rs xs → ∀ {i : Nat} {r : Addr}, rs[i]? = some r → ∃ x, xs[i]? = some x ∧ RowAt H r x
  | _ :: _, x :: _, ⟨h, t⟩, 0, r, e => by simp at e; subst e; exact ⟨x, rfl, h⟩
  | _ :: _, _ :: _, ⟨_, t⟩, i + 1, r, e => by simpa using t.get (i := i) (r := r) (by simpa using e)
/-- the change whose assignments are xs -/
def ChAt (K : PySem.W.Frag) (H : Hp) (a : Addr) (xs : List Rw) : Prop := ∃ (C dx t : Addr) (rs : List Addr), PySem.W.nsIn K mainGlobals "Change" = some (some (.ref C)) ∧ H a = some (.ins C dx [("assignments", .ref t)]) ∧ H t = some (.tup (rs.map V.ref)) ∧ RowsL H rs xs
theorem ChAt.same {H H' : Hp} {a : Addr} {xs : List Rw} (h : ChAt K H a xs) (s : Same H H') : ChAt K H' a xs := by
  obtain ⟨C, dx, t, rs, h1, h2, h3, h4⟩ := h
  exact ⟨C, dx, t, rs, h1, s _ _ h2, s _ _ h3, h4.same s⟩
def sp_Change___init__ (K : PySem.W.Frag) : Sp := fun vs H Q _ => ∃ (x p C dx : Addr) (xs : List V), vs = [.ref x, .ref p] ∧ PySem.W.nsIn K mainGlobals "Change" = some (some (.ref C)) ∧ H x = some (.ins C dx []) ∧ (H p = some (.lst xs) ∨ H p = some (.tup xs)) ∧
  ∀ (H' : Hp) (t : Addr), (∀ b o, b ≠ x → H b = some o → H' b = some o) → H' x = some (.ins C dx [("assignments", .ref t)]) → H' t = some (.tup xs) → Q .non H'
theorem len_Change___init__ {vs : List V} {H : Hp} {Q : VK} {E : XK} (h : sp_Change___init__ K vs H Q E) : vs.length = 2 := by
  obtain ⟨_, _, _, _, _, rfl, _⟩ := h
  rfl
theorem ok_Change___init__ {f : Addr} {fd : FuncData} (F : Fun K "__init__" "Change.__init__" s_Change___init__ f fd) (T : Gs K mg t_BOUND t_DIGITS t_LETTERS t_LONGEST_INTEGER t_LONGEST_NAME a_MARKS a_RESERVED a_SIGNS a_BadName a_BadNumber a_BadText a_Change a_ElseputError a_Reader a_TooLarge) : FnOk P w K mg base CX0 1 f fd ["self", "assignments"] (sp_Change___init__ K) := by
  refine F.ok sc_Change___init__ (fun vs H Q E h => len_Change___init__ h) (fun cdv A outer s H vs Q E hr h => ?_)
  obtain ⟨x, p, C, dx, xs, rfl, hC, hx, hp, q⟩ := h
  cases hC.symm.trans T.n_Change
  refine ⟨_, (pss_one (ps_fld (v_ 0) (pe_callTy (tupleK K) (by rfl) T.z_tuple (by decide +kernel) (pa_cons (v_ 1) pa_nil)) (by rfl))), ?_⟩
  rcases hp with hp | hp
  · refine ⟨p, xs, rfl, .inl ⟨SqL.of hp, fun l nl => ?_⟩⟩
    have lx : x ≠ l := ne_of_none hx nl
    refine ⟨x, a_Change, dx, [], rfl, same_new nl _ _ hx, T.cl_Change, T.na_Change_assignments, by decide, ?_⟩
    exact q _ l (fun b o nb hb => by rw [upd_ne nb]; exact same_new nl _ _ hb) upd_same (by rw [upd_ne lx.symm, upd_same])
  · refine ⟨p, xs, rfl, .inr ⟨SqT.of hp, ?_⟩⟩
    have lx : p ≠ x := fun e => by rw [e, hx] at hp; cases hp
    refine ⟨x, a_Change, dx, [], rfl, hx, T.cl_Change, T.na_Change_assignments, by decide, ?_⟩
    exact q _ p (fun b o nb hb => by rw [upd_ne nb]; exact hb) upd_same (by rw [upd_ne lx]; exact hp)
/-- what a made change is -/
def spMade (K : PySem.W.Frag) (H : Hp) (xs : List Rw) (Q : VK) : Prop := ∀ (H' : Hp) (a : Addr), Same H H' → H a = none → ChAt K H' a xs → Q (.ref a) H'
theorem made {K : PySem.W.Frag} {H H1 : Hp} {C p : Addr} {rs : List Addr} {xs : List Rw} {Q : VK} {E : XK} (hC : PySem.W.nsIn K mainGlobals "Change" = some (some (.ref C))) (s : Same H H1) (hp : H1 p = some (.lst (rs.map V.ref)) ∨ H1 p = some (.tup (rs.map V.ref))) (hr : RowsL H1 rs xs) (q : spMade K H xs Q) :
    ∀ x dx, H1 x = none → H1 dx = none → dx ≠ x → sp_Change___init__ K (.ref x :: ([.ref p] ++ [])) (upd (upd H1 dx (.own x)) x (.ins C dx [])) (fun v H2 => v = .non ∧ Q (.ref x) H2) E := by
  intro x dx nx nd ne
  have sm : Same H1 (upd (upd H1 dx (.own x)) x (.ins C dx [])) := fun b o hb => by
    rw [upd_ne (ne_of_none hb nx), upd_ne (ne_of_none hb nd)]
    exact hb
  refine ⟨x, p, C, dx, rs.map V.ref, rfl, hC, upd_same, hp.imp (sm _ _) (sm _ _), fun H' t k e1 e2 => ⟨rfl, ?_⟩⟩
  have s2 : Same H1 H' := fun b o hb => k b o (ne_of_none hb nx) (sm _ _ hb)
  exact q H' x (s.trans s2) (Same.free s nx) ⟨C, dx, t, rs, hC, e1, e2, hr.same s2⟩
def sp_Change_none (K : PySem.W.Frag) : Sp := fun vs H Q _ => vs = [] ∧ spMade K H [] Q
theorem len_Change_none {vs : List V} {H : Hp} {Q : VK} {E : XK} (h : sp_Change_none K vs H Q E) : vs.length = 0 := by
  obtain ⟨rfl, _⟩ := h
  rfl
theorem ok_Change_none {f : Addr} {fd : FuncData} {f_Change___init__ : Addr} {fd_Change___init__ : FuncData} (F : Fun K "none" "Change.none" s_Change_none f fd) (T : Gs K mg t_BOUND t_DIGITS t_LETTERS t_LONGEST_INTEGER t_LONGEST_NAME a_MARKS a_RESERVED a_SIGNS a_BadName a_BadNumber a_BadText a_Change a_ElseputError a_Reader a_TooLarge) (c_Change___init__ : CalI P w K mg base CX0 1 "Change" a_Change f_Change___init__ fd_Change___init__ ["self", "assignments"] (sp_Change___init__ K)) : FnOk P w K mg base CX0 3 f fd [] (sp_Change_none K) := by
  refine F.ok sc_Change_none (fun vs H Q E h => len_Change_none h) (fun cdv A outer s H vs Q E hr h => ?_)
  obtain ⟨rfl, q⟩ := h
  refine ⟨_, (pss_one (ps_ret (pe_make c_Change___init__.mkc c_Change___init__.G (hr.mono (by first | decide | omega)) rfl c_Change___init__.m c_Change___init__.b .nil pass0 (pa_cons (pe_tup pa_nil) pa_nil)))), ?_⟩
  refine ⟨Nat.zero_le _, fun p np => ?_⟩
  exact made (rs := []) (xs := []) T.n_Change (same_new np) (.inr upd_same) trivial q
def sp_Change_adding (K : PySem.W.Frag) : Sp := fun vs H Q _ => ∃ (z : Str) (i : Int), vs = [.str z, .int i] ∧ z.length ≤ 1000 ∧ isName z = true ∧ -1000000000000000000000000000000 ≤ i ∧ i ≤ 1000000000000000000000000000000 ∧ spMade K H [⟨z, true, i⟩] Q
theorem len_Change_adding {vs : List V} {H : Hp} {Q : VK} {E : XK} (h : sp_Change_adding K vs H Q E) : vs.length = 2 := by
  obtain ⟨_, _, rfl, _⟩ := h
  rfl
theorem ok_Change_adding {f : Addr} {fd : FuncData} {f_check_name : Addr} {fd_check_name : FuncData} {f_check_number : Addr} {fd_check_number : FuncData} {f_Change___init__ : Addr} {fd_Change___init__ : FuncData} (F : Fun K "adding" "Change.adding" s_Change_adding f fd) (T : Gs K mg t_BOUND t_DIGITS t_LETTERS t_LONGEST_INTEGER t_LONGEST_NAME a_MARKS a_RESERVED a_SIGNS a_BadName a_BadNumber a_BadText a_Change a_ElseputError a_Reader a_TooLarge) (c_check_name : Cal P w K mg base CX0 3 "check_name" f_check_name fd_check_name ["text"] (sp_check_name K)) (c_check_number : Cal P w K mg base CX0 3 "check_number" f_check_number fd_check_number ["value"] (sp_check_number K)) (c_Change___init__ : CalI P w K mg base CX0 1 "Change" a_Change f_Change___init__ fd_Change___init__ ["self", "assignments"] (sp_Change___init__ K)) : FnOk P w K mg base CX0 4 f fd ["field", "number"] (sp_Change_adding K) := by
  refine F.ok sc_Change_adding (fun vs H Q E h => len_Change_adding h) (fun cdv A outer s H vs Q E hr h => ?_)
  obtain ⟨z, i, rfl, hz, hn, i0, i1, q⟩ := h
  refine ⟨_, (pss_cons (ps_expr (pe_call c_check_name.G (hr.mono (by first | decide | omega)) rfl c_check_name.m c_check_name.kp c_check_name.b .nil pass0 (pa_cons (v_ 0) pa_nil))) (pss_cons (ps_expr (pe_call c_check_number.G (hr.mono (by first | decide | omega)) rfl c_check_number.m c_check_number.kp c_check_number.b .nil pass0 (pa_cons (v_ 1) pa_nil))) (pss_one (ps_ret (pe_make c_Change___init__.mkc c_Change___init__.G (hr.mono (by first | decide | omega)) rfl c_Change___init__.m c_Change___init__.b .nil pass0 (pa_cons (pe_tup (pa_cons (pe_tup (pa_cons (v_ 0) (pa_cons pe_str (pa_cons (v_ 1) pa_nil)))) pa_nil)) pa_nil)))))), ?_⟩
  refine ⟨z, rfl, hz, hn, fun H1 s1 => ?_⟩
  refine ⟨i, rfl, i0, i1, ?_⟩
  refine ⟨(by show 3 ≤ sizeLine; decide), fun r nr => ?_⟩
  refine ⟨(by show 1 ≤ sizeLine; decide), fun p np => ?_⟩
  exact made (rs := [r]) (xs := [⟨z, true, i⟩]) T.n_Change ((s1.trans (same_new nr)).trans (same_new np)) (.inr upd_same) ⟨same_new np _ _ upd_same, trivial⟩ q
def sp_Change_setting (K : PySem.W.Frag) : Sp := fun vs H Q _ => ∃ (z : Str) (i : Int), vs = [.str z, .int i] ∧ z.length ≤ 1000 ∧ isName z = true ∧ -1000000000000000000000000000000 ≤ i ∧ i ≤ 1000000000000000000000000000000 ∧ spMade K H [⟨z, false, i⟩] Q
theorem len_Change_setting {vs : List V} {H : Hp} {Q : VK} {E : XK} (h : sp_Change_setting K vs H Q E) : vs.length = 2 := by
  obtain ⟨_, _, rfl, _⟩ := h
  rfl
theorem ok_Change_setting {f : Addr} {fd : FuncData} {f_check_name : Addr} {fd_check_name : FuncData} {f_check_number : Addr} {fd_check_number : FuncData} {f_Change___init__ : Addr} {fd_Change___init__ : FuncData} (F : Fun K "setting" "Change.setting" s_Change_setting f fd) (T : Gs K mg t_BOUND t_DIGITS t_LETTERS t_LONGEST_INTEGER t_LONGEST_NAME a_MARKS a_RESERVED a_SIGNS a_BadName a_BadNumber a_BadText a_Change a_ElseputError a_Reader a_TooLarge) (c_check_name : Cal P w K mg base CX0 3 "check_name" f_check_name fd_check_name ["text"] (sp_check_name K)) (c_check_number : Cal P w K mg base CX0 3 "check_number" f_check_number fd_check_number ["value"] (sp_check_number K)) (c_Change___init__ : CalI P w K mg base CX0 1 "Change" a_Change f_Change___init__ fd_Change___init__ ["self", "assignments"] (sp_Change___init__ K)) : FnOk P w K mg base CX0 4 f fd ["field", "number"] (sp_Change_setting K) := by
  refine F.ok sc_Change_setting (fun vs H Q E h => len_Change_setting h) (fun cdv A outer s H vs Q E hr h => ?_)
  obtain ⟨z, i, rfl, hz, hn, i0, i1, q⟩ := h
  refine ⟨_, (pss_cons (ps_expr (pe_call c_check_name.G (hr.mono (by first | decide | omega)) rfl c_check_name.m c_check_name.kp c_check_name.b .nil pass0 (pa_cons (v_ 0) pa_nil))) (pss_cons (ps_expr (pe_call c_check_number.G (hr.mono (by first | decide | omega)) rfl c_check_number.m c_check_number.kp c_check_number.b .nil pass0 (pa_cons (v_ 1) pa_nil))) (pss_one (ps_ret (pe_make c_Change___init__.mkc c_Change___init__.G (hr.mono (by first | decide | omega)) rfl c_Change___init__.m c_Change___init__.b .nil pass0 (pa_cons (pe_tup (pa_cons (pe_tup (pa_cons (v_ 0) (pa_cons pe_str (pa_cons (v_ 1) pa_nil)))) pa_nil)) pa_nil)))))), ?_⟩
  refine ⟨z, rfl, hz, hn, fun H1 s1 => ?_⟩
  refine ⟨i, rfl, i0, i1, ?_⟩
  refine ⟨(by show 3 ≤ sizeLine; decide), fun r nr => ?_⟩
  refine ⟨(by show 1 ≤ sizeLine; decide), fun p np => ?_⟩
  exact made (rs := [r]) (xs := [⟨z, false, i⟩]) T.n_Change ((s1.trans (same_new nr)).trans (same_new np)) (.inr upd_same) ⟨same_new np _ _ upd_same, trivial⟩ q

/-! ### the joining -/
def followedR (x : Rw) : List Rw → Rw
  | [] => x
  | y :: ys => if y.f = x.f then (if y.add = false then ⟨x.f, false, y.n⟩ else ⟨x.f, x.add, x.n + y.n⟩) else followedR x ys
def sp_followed (K : PySem.W.Frag) : Sp := fun vs H Q _ => ∃ (r p : Addr) (x : Rw) (rs : List Addr) (ys : List Rw), vs = [.ref r, .ref p] ∧ RowAt H r x ∧ H p = some (.tup (rs.map V.ref)) ∧ RowsL H rs ys ∧ ys.length ≤ 10 ∧ ∀ (H' : Hp) (r' : Addr), Same H H' → RowAt H' r' (followedR x ys) → Q (.ref r') H'
theorem len_followed {vs : List V} {H : Hp} {Q : VK} {E : XK} (h : sp_followed K vs H Q E) : vs.length = 2 := by
  obtain ⟨_, _, _, _, _, rfl, _⟩ := h
  rfl
theorem deed_add {b : Bool} : decide (deed b = "add") = b := by cases b <;> decide +kernel
theorem deed_set {b : Bool} : decide (deed b = "set") = !b := by cases b <;> decide +kernel
theorem ok_followed {f : Addr} {fd : FuncData} (F : Fun K "followed" "followed" s_followed f fd) (T : Gs K mg t_BOUND t_DIGITS t_LETTERS t_LONGEST_INTEGER t_LONGEST_NAME a_MARKS a_RESERVED a_SIGNS a_BadName a_BadNumber a_BadText a_Change a_ElseputError a_Reader a_TooLarge) : FnOk P w K mg base CX0 1 f fd ["assignment", "later"] (sp_followed K) := by
  refine F.ok sc_followed (fun vs H Q E h => len_followed h) (fun cdv A outer s H vs Q E hr h => ?_)
  obtain ⟨r, p, x, rs, ys, rfl, hx, hp, hrs, hl, q⟩ := h
  refine ⟨_, (pss_cons (ps_asg (v_ 0) (pg_tup (by rfl) (pgs_cons (pg_name (i := 2) sc_followed.nd rfl (.inl rfl)) (pgs_cons (pg_name (i := 3) sc_followed.nd rfl (.inl rfl)) (pgs_cons (pg_name (i := 4) sc_followed.nd rfl (.inl rfl)) pgs_nil))))) (pss_cons (ps_for PassesOwn.never rfl (pi_tup (v_ 1)) (pg_tup (by rfl) (pgs_cons (pg_name (i := 5) sc_followed.nd rfl (.inl rfl)) (pgs_cons (pg_name (i := 6) sc_followed.nd rfl (.inl rfl)) (pgs_cons (pg_name (i := 7) sc_followed.nd rfl (.inl rfl)) pgs_nil)))) (pss_cons (ps_if (PW.pt (pw_and (pt_c (eqK K hr.units) (v_ 5) (v_ 2)) (pw_and1 (pt_c (eqK K hr.units) (v_ 6) pe_str)))) (pss_one (ps_ret (pe_tup (pa_cons (v_ 2) (pa_cons pe_str (pa_cons (v_ 7) pa_nil)))))) pss_nil) (pss_one (ps_if (pt_c (eqK K hr.units) (v_ 5) (v_ 2)) (pss_one (ps_ret (pe_tup (pa_cons (v_ 2) (pa_cons (v_ 3) (pa_cons (pe_op (addK K) (v_ 4) (v_ 7)) pa_nil)))))) pss_nil)))) (pss_one (ps_ret (v_ 0))))), ?_⟩
  refine ⟨r, _, rfl, .inl (.inl hx), rfl, _, _, rfl, _, _, rfl, _, _, rfl, rfl, ?_⟩
  refine ⟨p, rfl, ⟨_, .inl (.inl hp)⟩, ?_⟩
  refine for_tup (K := K) (a := p) (xs := rs.map V.ref) (fun i σ' H' => H' = H ∧ (∃ y z w, σ' = [some (.ref r), some (.ref p), some (.str x.f), some (.str (deed x.add)), some (.int x.n), y, z, w]) ∧ followedR x ys = followedR x (ys.drop i)) ⟨rfl, ⟨_, _, _, rfl⟩, rfl⟩ (fun i σ' H' _ h => by rw [h.1]; exact .inl (.inl hp)) ?_ ?_
  · rintro i v σ' H' hi ⟨rfl, ⟨y, z, w, rfl⟩, hf⟩
    rw [List.getElem?_map] at hi
    obtain ⟨r2, hr2, rfl⟩ := Option.map_eq_some_iff.mp hi
    obtain ⟨y2, hy2, ha2⟩ := hrs.get hr2
    have hd : ys.drop i = y2 :: ys.drop (i + 1) := by
      obtain ⟨h1, h2⟩ := List.getElem?_eq_some_iff.mp hy2
      rw [List.drop_eq_getElem_cons h1, h2]
    rw [hd] at hf
    refine ⟨r2, _, rfl, .inl (.inl ha2), rfl, _, _, rfl, _, _, rfl, _, _, rfl, rfl, ?_⟩
    refine ite2 (fun e => ?_) (fun e => ?_)
    · have e : y2.f = x.f := of_decide_eq_true e
      refine ite2 (fun e2 => ?_) (fun e2 => ?_)
      · have e2 : y2.add = false := by simpa using deed_set.symm.trans e2
        refine ⟨(by show 3 ≤ sizeLine; decide), fun t nt => ?_⟩
        refine q _ t (same_new nt) ?_
        rw [hf, followedR, if_pos e, if_pos e2]
        exact upd_same
      · have e2 : y2.add = true := by
          have := deed_set.symm.trans (Bool.eq_false_iff.mpr e2)
          simpa using this
        refine ite2 (fun e3 => ?_) (fun e3 => absurd (decide_eq_true e) e3)
        refine ⟨(by show 3 ≤ sizeLine; decide), fun t nt => ?_⟩
        refine q _ t (same_new nt) ?_
        rw [hf, followedR, if_pos e, if_neg (by rw [e2]; decide)]
        exact upd_same
    · have e : ¬ y2.f = x.f := of_decide_eq_false (Bool.eq_false_iff.mpr e)
      refine ite2 (fun e3 => nomatch e3) (fun _ => ?_)
      refine ite2 (fun e3 => absurd (of_decide_eq_true e3) e) (fun _ => ?_)
      refine ⟨rfl, ⟨_, _, _, rfl⟩, ?_⟩
      rw [hf, followedR, if_neg e]
  · rintro σ' H' ⟨rfl, ⟨y, z, w, rfl⟩, hf⟩
    refine q H' r (Same.refl H') ?_
    rw [hf, List.drop_of_length_le (by rw [List.length_map, hrs.len]; exact Nat.le_refl _)]
    exact hx
end
section
variable {P : Program} {w : World} {K : PySem.W.Frag} {mg : Str → Option Value} {base : Heap}
variable {t_BOUND t_DIGITS t_LETTERS t_LONGEST_INTEGER t_LONGEST_NAME : Tok} {a_MARKS a_RESERVED a_SIGNS a_BadName a_BadNumber a_BadText a_Change a_ElseputError a_Reader a_TooLarge : Addr}
def okx_TooLarge (ws : List V) : Prop := ∃ l : Int, ws = [.int l] ∧ 0 ≤ l ∧ l ≤ 100000
def fs_TooLarge (ws : List V) : List (Str × V) := match ws with | [l] => [("most", l)] | _ => []
theorem len_spE {C : Addr} {ok : List V → Prop} {fs : List V → List (Str × V)} {n : Nat} (hn : ∀ ws, ok ws → ws.length = n) {vs : List V} {H : Hp} {Q : VK} {E : XK} (h : spE C ok fs vs H Q E) : vs.length = n + 1 := by
  obtain ⟨a, ws, rfl, h, _⟩ := h
  rw [List.length_cons, hn _ h]
theorem log_small {i : Int} (h0 : 0 ≤ i) (h1 : i ≤ 100000) : i.natAbs.log2 < 1920 := by
  by_cases hz : i.natAbs = 0
  · rw [hz]
    decide
  · refine (Nat.log2_lt hz).mpr ?_
    have : i.natAbs ≤ 100000 := by omega
    exact Nat.lt_of_le_of_lt this (Nat.lt_of_lt_of_le (show 100000 < 2 ^ 17 by decide) (Nat.pow_le_pow_right (by decide) (by decide)))
theorem text_small {i : Int} (h0 : 0 ≤ i) (h1 : i ≤ 100000) : (Str.ofString (toString i)).length ≤ 6 := toString_length_le h0 (by decide) (by omega)
theorem ok_TooLarge {C f cc cda : Addr} {doc pm ct oc ccl cl : Value} {od cdd cld : Option Addr} {osl ccs csl : Array (Option Value)} {vs0 : Array Value} {file : Str} {tf : Tok} {cdD : ClassData}
    (X : ExK K C f ["most"]) (lk : K.lookup f = some ⟨oc, od, .func (PySem.W.fnX "__init__" "TooLarge.__init__" (defArgs s_TooLarge) (defBody s_TooLarge) (defScope s_TooLarge) [("__class__", cc)] .none .none doc pm none (.ref cda) ct), osl⟩)
    (hcd : PySem.W.codeIn K (.ref cda) "TooLarge.__init__" = true) (hcode : K.lookup cda = some ⟨ccl, cdd, .fields vs0, ccs⟩) (hvs : vs0[2]? = some (.str file tf)) (hfile : ((P.main.file : Str) == file) = true)
    (hcell : K.lookup cc = some ⟨cl, cld, .cell (some (.ref C)), csl⟩) (hD : PySem.W.clsIn K C = some cdD) (hsuper : mg "super" = none) (hop : PySem.W.nsIn K PySem.cStatics "thirdparty.any" = some none) (htop : (P.main.scope.names.lookup ("super" : Str)).isSome = false) :
    FnOk P w K mg base CX0 1 f (PySem.W.fnX "__init__" "TooLarge.__init__" (defArgs s_TooLarge) (defBody s_TooLarge) (defScope s_TooLarge) [("__class__", cc)] .none .none doc pm none (.ref cda) ct) ["self", "most"] (spE C okx_TooLarge fs_TooLarge) := by
  refine fn_super lk hcd sc_TooLarge hcode hvs hfile hcell hD hsuper hop rfl rfl rfl htop rfl (fun vs H Q E h => len_spE (n := 1) (fun ws h => by obtain ⟨_, rfl, _⟩ := h; rfl) h) (fun A outer s H vs Q E hr h => ?_) (fun _ => rfl) (fun _ => rfl) (fun _ => rfl)
  obtain ⟨a, ws, rfl, ⟨l, rfl, l0, l1⟩, ea, q⟩ := h
  refine ⟨a, C, _, _, rfl, ea, X.oex, X.mro, X.sup, X.subV, pa_cons (pe_joined (.cons pe_str (.cons (pe_fmt (v_ 1)) .nil))) pa_nil, pss_one (ps_ost (v_ 0) (v_ 1)), ?_⟩
  have tl := text_small l0 l1
  have z0 : Str.empty.length = 0 := rfl
  have z1 : (Str.ofString "more than ").length = 10 := rfl
  refine ⟨_, rfl, line_of (by rw [len_add]; omega), .inr ⟨_, rfl, log_small l0 l1, _, rfl, line_of (by rw [len_add, len_add]; omega), ?_⟩⟩
  refine ⟨ea, (by show 1 ≤ 1000; decide), ?_⟩
  exact ⟨a, C, rfl, X.oex, X.no _ (by simp), .inl ⟨ea, ost1 ea fun dx H' n ne e1 e2 hh => q dx _ n ne e1 e2 hh⟩⟩

theorem str_eq {a b : Str} : a = b ↔ a.cps.toList = b.cps.toList := by
  constructor
  · rintro rfl; rfl
  · intro h
    cases a
    cases b
    congr
    exact Array.toList_inj.mp h
theorem inV_str {z : Str} : ∀ {xs : List Str}, inV (.str z) (xs.map V.str) = decide (z ∈ xs)
  | [] => rfl
  | a :: r => by
    have ih := inV_str (z := z) (xs := r)
    unfold inV at ih ⊢
    rw [List.map_cons, List.any_cons, ih]
    have : eqV (.str a) (.str z) = decide (z = a) := by
      show (a == z) = _
      rw [Bool.eq_iff_iff, beq_iff_eq, decide_eq_true_iff, eq_comm]
    rw [this, Bool.eq_iff_iff, Bool.or_eq_true, decide_eq_true_iff, decide_eq_true_iff, decide_eq_true_iff, List.mem_cons]
theorem flat_strs {xs : List Str} : (xs.map V.str).all flatV = true := by
  rw [List.all_map]
  exact List.all_eq_true.mpr fun _ _ => rfl
theorem take_snoc {α : Type} {xs : List α} {i : Nat} {x : α} (h : xs[i]? = some x) : xs.take (i + 1) = xs.take i ++ [x] := by
  rw [List.take_add_one, h]
  rfl
def sp_Change_assigned (K : PySem.W.Frag) : Sp := fun vs H Q _ => ∃ (a : Addr) (xs : List Rw), vs = [.ref a] ∧ ChAt K H a xs ∧ xs.length ≤ 20 ∧ ∀ (H' : Hp) (t : Addr), Same H H' → H' t = some (.tup ((xs.map (·.f)).map V.str)) → Q (.ref t) H'
theorem len_Change_assigned {vs : List V} {H : Hp} {Q : VK} {E : XK} (h : sp_Change_assigned K vs H Q E) : vs.length = 1 := by
  obtain ⟨_, _, rfl, _⟩ := h
  rfl
theorem ok_Change_assigned {f : Addr} {fd : FuncData} (F : Fun K "assigned" "Change.assigned" s_Change_assigned f fd) (T : Gs K mg t_BOUND t_DIGITS t_LETTERS t_LONGEST_INTEGER t_LONGEST_NAME a_MARKS a_RESERVED a_SIGNS a_BadName a_BadNumber a_BadText a_Change a_ElseputError a_Reader a_TooLarge) : FnOk P w K mg base CX0 1 f fd ["self"] (sp_Change_assigned K) := by
  refine F.ok sc_Change_assigned (fun vs H Q E h => len_Change_assigned h) (fun cdv A outer s H vs Q E hr h => ?_)
  obtain ⟨a, xs, rfl, ⟨C, dx, t, rs, hC, ha, ht, hrs⟩, hl, q⟩ := h
  cases hC.symm.trans T.n_Change
  refine ⟨_, (pss_one (ps_ret (pe_callTy (tupleK K) (by rfl) T.z_tuple (by decide +kernel) (pa_cons (pe_lc (own := [("part", 1)]) (g := gName 1) (by rfl) sc_Change_assigned.nd (pi_tup (e_f K (v_ 0))) (blkOk_by (N := ["self", "part"]) (sc := defScope s_Change_assigned) (by decide +kernel)) (fun _ _ _ _ _ => pg_name (i := 1) sc_Change_assigned.nd rfl (Or.inl rfl)) (fun _ _ _ _ _ => pts_nil) (fun _ _ _ _ _ => (e_x K (v_ 1) pe_int))) pa_nil)))), ?_⟩
  refine ⟨a, a_Change, dx, _, _, rfl, ha, T.cl_Change, T.na_Change_assignments, rfl, t, rfl, ⟨_, SqT.of ht⟩, fun D nD => ?_⟩
  refine lc_it walk_tup (fun i H' => Same H H' ∧ H' D = some (.lst (((xs.take i).map (·.f)).map V.str))) ⟨same_new nD, upd_same⟩ (fun _ _ _ h => SqT.of (h.1 _ _ ht)) ?_ ?_
  · rintro i v H1 H2 hi ⟨sm, hD⟩ ⟨rfl, hv⟩
    rw [List.length_map] at hi
    obtain ⟨r, er⟩ : ∃ r, rs[i]? = some r := ⟨_, List.getElem?_eq_getElem hi⟩
    have hv : (rs.map V.ref)[i]? = some v := by
      first | exact hv | exact hv _ (SqT.of (sm _ _ ht))
    rw [List.getElem?_map, er] at hv
    cases hv
    obtain ⟨x, ex, hx⟩ := hrs.get er
    refine ⟨rfl, ?_⟩
    refine ⟨_, .inr (SqT.of (sm _ _ hx)), .str x.f, rfl, _, hD, line_lt (by rw [List.length_map, List.length_map, List.length_take]; omega), ?_, ?_⟩
    · intro b o hb
      rw [upd_ne (ne_of_none hb nD)]
      exact sm _ _ hb
    · rw [upd_same, take_snoc ex, List.map_append, List.map_append]
      rfl
  · rintro H1 ⟨sm, hD⟩
    rw [List.length_map, hrs.len, List.take_length] at hD
    refine ⟨D, _, rfl, .inl ⟨SqL.of hD, fun u nu => ?_⟩⟩
    exact q _ u (sm.trans (same_new nu)) upd_same
end
section
variable {P : Program} {w : World} {K : PySem.W.Frag} {mg : Str → Option Value} {base : Heap}
variable {t_BOUND t_DIGITS t_LETTERS t_LONGEST_INTEGER t_LONGEST_NAME : Tok} {a_MARKS a_RESERVED a_SIGNS a_BadName a_BadNumber a_BadText a_Change a_ElseputError a_Reader a_TooLarge : Addr}
theorem RowsL.keep {H H' : Hp} (s : ∀ c z, H c = some (.tup z) → H' c = some (.tup z)) : ∀ {rs : List Addr} {xs : List Rw}, RowsL H rs xs → RowsL H' rs xs
  | [], [], _ => trivial
  | _ :: _, _ :: _, ⟨h, t⟩ => ⟨s _ _ h, RowsL.keep s t⟩
def joinedR (xs ys : List Rw) : List Rw := xs.map (fun x => followedR x ys) ++ ys.filter (fun y => !decide (y.f ∈ xs.map (·.f)))
def Joins (K : PySem.W.Frag) (H : Hp) (xs ys : List Rw) (Q : VK) (E : XK) : Prop := if (joinedR xs ys).length ≤ 3 then spMade K H (joinedR xs ys) Q else
  ∀ (C d : Addr) (H' : Hp), PySem.W.nsIn K mainGlobals "TooLarge" = some (some (.ref C)) → Same H H' → H d = none → H' d = some (.xd [("most", .int 3)]) → E (.ref C) (some d) H'
def sp_Change___rshift__ (K : PySem.W.Frag) : Sp := fun vs H Q E => ∃ (a b : Addr) (xs ys : List Rw), vs = [.ref a, .ref b] ∧ ChAt K H a xs ∧ ChAt K H b ys ∧ xs.length ≤ 10 ∧ ys.length ≤ 10 ∧ Joins K H xs ys Q E
theorem len_Change___rshift__ {vs : List V} {H : Hp} {Q : VK} {E : XK} (h : sp_Change___rshift__ K vs H Q E) : vs.length = 2 := by
  obtain ⟨_, _, _, _, rfl, _⟩ := h
  rfl
theorem ok_Change___rshift__ {f : Addr} {fd : FuncData} {f_followed : Addr} {fd_followed : FuncData} {f_Change___init__ : Addr} {fd_Change___init__ : FuncData} {f_Change_assigned : Addr} {fd_Change_assigned : FuncData} {p_Change_assigned : Addr} {f_TooLarge : Addr} {fd_TooLarge : FuncData} (F : Fun K "__rshift__" "Change.__rshift__" s_Change___rshift__ f fd) (T : Gs K mg t_BOUND t_DIGITS t_LETTERS t_LONGEST_INTEGER t_LONGEST_NAME a_MARKS a_RESERVED a_SIGNS a_BadName a_BadNumber a_BadText a_Change a_ElseputError a_Reader a_TooLarge) (c_followed : Cal P w K mg base CX0 1 "followed" f_followed fd_followed ["assignment", "later"] (sp_followed K)) (c_Change___init__ : CalI P w K mg base CX0 1 "Change" a_Change f_Change___init__ fd_Change___init__ ["self", "assignments"] (sp_Change___init__ K)) (c_Change_assigned : CalP P w K mg base CX0 1 a_Change p_Change_assigned "assigned" f_Change_assigned fd_Change_assigned ["self"] (sp_Change_assigned K)) (c_TooLarge : CalE P w K mg base 1 "TooLarge" a_TooLarge f_TooLarge fd_TooLarge ["self", "most"] okx_TooLarge fs_TooLarge ["most"]) : FnOk P w K mg base (L2.CX P w) 3 f fd ["self", "other"] (sp_Change___rshift__ K) := by
  refine F.okX sc_Change___rshift__ (fun vs H Q E h => len_Change___rshift__ h) (fun cdv A outer s H vs Q E hr h => ?_)
  obtain ⟨a, b, xs, ys, rfl, hA, hB, lx, ly, q⟩ := h
  obtain ⟨C, dx, t, rs, hC, ha, ht, hrs⟩ := id hA
  obtain ⟨C2, dy, u, us, hC2, hb, hu, hus⟩ := id hB
  cases hC.symm.trans T.n_Change
  cases hC2.symm.trans T.n_Change
  refine ⟨_, (pss_cons (ps_setLc (i := 2) (own := [("part", 4)]) (g := gName 4) (by rfl) sc_Change___rshift__.nd rfl rfl (sw_true rfl rfl rfl (by decide +kernel)) (pi_tup (e_f K (v_ 0))) (blkOk_by (N := ["self", "other", "both", "new", "part"]) (sc := defScope s_Change___rshift__) (by decide +kernel)) (fun _ _ _ _ _ => pg_name (i := 4) sc_Change___rshift__.nd rfl (Or.inl rfl)) (fun _ _ _ _ _ => pts_nil) (fun _ _ _ _ _ => (pe_call c_followed.G (hr.mono (by first | decide | omega)) rfl c_followed.m c_followed.kp c_followed.b .nil pass0 (pa_cons (v_ 4) (pa_cons (e_f K (v_ 1)) pa_nil))))) (pss_cons (ps_setLc (i := 3) (own := [("part", 4)]) (g := gName 4) (by rfl) sc_Change___rshift__.nd rfl rfl (sw_true rfl rfl rfl (by decide +kernel)) (pi_tup (e_f K (v_ 1))) (blkOk_by (N := ["self", "other", "both", "new", "part"]) (sc := defScope s_Change___rshift__) (by decide +kernel)) (fun _ _ _ _ _ => pg_name (i := 4) sc_Change___rshift__.nd rfl (Or.inl rfl)) (fun _ _ _ _ _ => pts_one (pt_c (notInK K) (e_x K (v_ 4) pe_int) (pe_prop (v_ 0) c_Change_assigned.cl c_Change_assigned.pr c_Change_assigned.G (hr.mono (by first | decide | omega)) c_Change_assigned.b .nil pass0 (by rfl)))) (fun _ _ _ _ _ => (v_ 4))) (pss_cons (ps_if (pt_c op_gtM (pe_op (addK K) (pe_callB (lenK K) (by rfl) T.z_len PySem.boot_len (pa_cons (v_ 2) pa_nil)) (pe_callB (lenK K) (by rfl) T.z_len PySem.boot_len (pa_cons (v_ 3) pa_nil))) (e_cv K (pe_glob (v := .ref a_Change) rfl T.g_Change rfl))) (pss_one (ps_raise rfl (takes_of rfl rfl rfl rfl) (pmk_oex c_TooLarge.X.oex c_TooLarge.X.iC c_TooLarge.X.tI c_TooLarge.G (hr.mono (by first | decide | omega)) c_TooLarge.b .nil pass0 rfl c_TooLarge.m (pa_cons (e_cv K (pe_glob (v := .ref a_Change) rfl T.g_Change rfl)) pa_nil)))) pss_nil) (pss_one (ps_ret (pe_make c_Change___init__.mkc c_Change___init__.G (hr.mono (by first | decide | omega)) rfl c_Change___init__.m c_Change___init__.b .nil pass0 (pa_cons (pe_tup (StX.pa_star (v_ 2) (StX.pa_star (v_ 3) pa_nil))) pa_nil))))))), ?_⟩
  refine ⟨a, a_Change, dx, _, _, rfl, ha, T.cl_Change, T.na_Change_assignments, rfl, t, rfl, ⟨_, SqT.of ht⟩, fun D nD => ?_⟩
  refine lc_it walk_tup (fun i H' => Same H H' ∧ ∃ ts : List Addr, H' D = some (.lst (ts.map V.ref)) ∧ RowsL H' ts ((xs.take i).map (fun x => followedR x ys))) ⟨same_new nD, [], upd_same, trivial⟩ (fun _ _ _ h => SqT.of (h.1 _ _ ht)) ?_ ?_
  · rintro i v H1 H2 hi ⟨sm, ts, hD, hts⟩ ⟨rfl, hv⟩
    rw [List.length_map] at hi
    obtain ⟨r, er⟩ : ∃ r, rs[i]? = some r := ⟨_, List.getElem?_eq_getElem hi⟩
    have hv : (rs.map V.ref)[i]? = some v := by
      first | exact hv | exact hv _ (SqT.of (sm _ _ ht))
    rw [List.getElem?_map, er] at hv
    cases hv
    obtain ⟨x, ex, hx⟩ := hrs.get er
    refine ⟨rfl, ?_⟩
    refine ⟨b, a_Change, dy, _, _, rfl, sm _ _ hb, T.cl_Change, T.na_Change_assignments, rfl, r, u, x, us, ys, rfl, sm _ _ hx, sm _ _ hu, hus.same sm, ly, fun H3 r' s3 hr' => ?_⟩
    have tl : ts.length ≤ 10 := by
      rw [hts.len, List.length_map, List.length_take]
      omega
    refine ⟨_, s3 _ _ hD, line_lt (by rw [List.length_map]; omega), ?_, ts ++ [r'], by rw [upd_same, List.map_append]; rfl, ?_⟩
    · intro c o hc
      rw [upd_ne (ne_of_none hc nD)]
      exact s3 _ _ (sm _ _ hc)
    · rw [take_snoc ex, List.map_append]
      have keep : ∀ c z, H3 c = some (.tup z) → (upd H3 D (.lst (ts.map V.ref ++ [.ref r']))) c = some (.tup z) := fun c z hc => by
        rw [upd_ne (ne_of hc (s3 _ _ hD) (by intro e; cases e))]
        exact hc
      exact RowsL.app ((hts.same s3).keep keep) ⟨keep _ _ hr', trivial⟩
  · rintro H1 ⟨sm, ts, hD, hts⟩
    rw [List.length_map, hrs.len, List.take_length] at hts
    refine ⟨b, a_Change, dy, _, _, rfl, sm _ _ hb, T.cl_Change, T.na_Change_assignments, rfl, u, rfl, ⟨_, SqT.of (sm _ _ hu)⟩, fun D2 nD2 => ?_⟩
    refine lc_it walk_tup (fun i H' => Same H1 H' ∧ ∃ ts : List Addr, H' D2 = some (.lst (ts.map V.ref)) ∧ RowsL H' ts ((ys.take i).filter (fun y => !decide (y.f ∈ xs.map (·.f))))) ⟨same_new nD2, [], upd_same, trivial⟩ (fun _ _ _ h => SqT.of (h.1 _ _ (sm _ _ hu))) ?_ ?_
    · rintro i v H2 H2' hi ⟨sm2, ts2, hD2, hts2⟩ ⟨rfl, hv⟩
      rw [List.length_map] at hi
      obtain ⟨r, er⟩ : ∃ r, us[i]? = some r := ⟨_, List.getElem?_eq_getElem hi⟩
      have hv : (us.map V.ref)[i]? = some v := by
        first | exact hv | exact hv _ (SqT.of (sm2 _ _ (sm _ _ hu)))
      rw [List.getElem?_map, er] at hv
      cases hv
      obtain ⟨y, ey, hy⟩ := hus.get er
      have s02 := sm.trans sm2
      refine ⟨rfl, ?_⟩
      refine ⟨_, .inr (SqT.of (s02 _ _ hy)), .str y.f, rfl, a, dx, _, rfl, s02 _ _ ha, a, xs, rfl, hA.same s02, by omega, fun H3 t3 s3 ht3 => ?_⟩
      refine ⟨_, .inr (SqT.of ht3), rfl, flat_strs, ?_⟩
      have hf : (ys.take (i + 1)).filter (fun y => !decide (y.f ∈ xs.map (·.f))) = (ys.take i).filter (fun y => !decide (y.f ∈ xs.map (·.f))) ++ (if (!decide (y.f ∈ xs.map (·.f))) = true then [y] else []) := by
        rw [take_snoc ey, List.filter_append, List.filter_cons, List.filter_nil]
      refine ite2 (fun e => ?_) (fun e => ?_)
      · have e : (!decide (y.f ∈ xs.map (·.f))) = true := by rw [← inV_str]; exact e
        have tl : ts2.length ≤ 10 := by
          rw [hts2.len]
          have := List.length_filter_le (fun y : Rw => !decide (y.f ∈ xs.map (·.f))) (ys.take i)
          rw [List.length_take] at this
          omega
        have keep : ∀ c z, H3 c = some (.tup z) → (upd H3 D2 (.lst (ts2.map V.ref ++ [.ref r]))) c = some (.tup z) := fun c z hc => by
          rw [upd_ne (ne_of hc (s3 _ _ hD2) (by intro e; cases e))]
          exact hc
        refine ⟨_, s3 _ _ hD2, line_lt (by rw [List.length_map]; omega), ?_, ts2 ++ [r], by rw [upd_same, List.map_append]; rfl, ?_⟩
        · intro c o hc
          rw [upd_ne (ne_of_none hc nD2)]
          exact s3 _ _ (sm2 _ _ hc)
        · rw [hf, if_pos e]
          exact RowsL.app ((hts2.same s3).keep keep) ⟨keep _ _ (s3 _ _ (s02 _ _ hy)), trivial⟩
      · have e : ¬ (!decide (y.f ∈ xs.map (·.f))) = true := by rw [← inV_str]; exact e
        refine ⟨sm2.trans s3, ts2, s3 _ _ hD2, ?_⟩
        rw [hf, if_neg e, List.append_nil]
        exact hts2.same s3
    · rintro H2 ⟨sm2, ts2, hD2, hts2⟩
      rw [List.length_map, hus.len, List.take_length] at hts2
      have hlen : (joinedR xs ys).length = ts.length + ts2.length := by
        unfold joinedR
        rw [List.length_append, hts.len, hts2.len]
      refine .inl ⟨_, .inl (SqL.of (sm2 _ _ hD)), .inl ⟨_, .inl (SqL.of hD2), ?_⟩⟩
      rw [List.length_map, List.length_map]
      obtain ⟨mu, hmu⟩ := T.cv_Change_MOST
      have s02 := sm.trans sm2
      have t1 : ts.length ≤ 10 := by rw [hts.len, List.length_map]; exact lx
      have t2 : ts2.length ≤ 10 := by
        rw [hts2.len]
        exact Nat.le_trans (List.length_filter_le _ _) ly
      refine ⟨a_Change, _, _, _, rfl, T.rd_Change, hmu, ?_⟩
      unfold Joins at q
      refine ite2 (fun e => ?_) (fun e => ?_)
      · have e : (3 : Int) < (ts.length : Int) + ts2.length := of_decide_eq_true e
        rw [if_neg (by omega)] at q
        refine ⟨a_Change, _, _, _, rfl, T.rd_Change, hmu, ?_⟩
        refine mk_spE (by show 1 ≤ 1000; decide) ⟨3, rfl, by decide, by decide⟩ (fun d nd => ?_)
        exact q a_TooLarge d _ T.n_TooLarge (s02.trans (same_new nd)) (Same.free s02 nd) upd_same
      · have e : ¬ (3 : Int) < (ts.length : Int) + ts2.length := of_decide_eq_false (Bool.eq_false_iff.mpr e)
        rw [if_pos (by omega)] at q
        refine ⟨D, _, rfl, .inr (SqL.of (sm2 _ _ hD)), D2, _, rfl, .inr (SqL.of hD2), ?_⟩
        refine ⟨line_of (by rw [List.append_nil, List.length_append, List.length_map, List.length_map]; omega), fun p np => ?_⟩
        refine made (rs := ts ++ ts2) (xs := joinedR xs ys) T.n_Change (s02.trans (same_new np)) (.inr ?_) (((hts.same sm2).app hts2).same (same_new np)) q
        rw [upd_same, List.append_nil, List.map_append]
end
section
variable {P : Program} {w : World} {K : PySem.W.Frag} {mg : Str → Option Value} {base : Heap}
variable {t_BOUND t_DIGITS t_LETTERS t_LONGEST_INTEGER t_LONGEST_NAME : Tok} {a_MARKS a_RESERVED a_SIGNS a_BadName a_BadNumber a_BadText a_Change a_ElseputError a_Reader a_TooLarge : Addr}
def sp__law_draw (K : PySem.W.Frag) : Sp := fun vs H Q _ => ∃ (st scr : Addr) (many : Int), vs = [.ref st, .int many] ∧ DrAt H st scr ∧ 0 < many ∧ many.natAbs < 2 ^ 200 ∧
  ∀ (r : Int) (l : List V), 0 ≤ r → r < many → DrAt (upd H st (.lst l)) st scr → Q (.int r) (upd H st (.lst l))
theorem len__law_draw {vs : List V} {H : Hp} {Q : VK} {E : XK} (h : sp__law_draw K vs H Q E) : vs.length = 2 := by
  obtain ⟨_, _, _, rfl, _⟩ := h
  rfl
theorem ok__law_draw {f : Addr} {fd : FuncData} (F : Fun K "_law_draw" "_law_draw" s__law_draw f fd) (T : Gs K mg t_BOUND t_DIGITS t_LETTERS t_LONGEST_INTEGER t_LONGEST_NAME a_MARKS a_RESERVED a_SIGNS a_BadName a_BadNumber a_BadText a_Change a_ElseputError a_Reader a_TooLarge) : FnOk P w K mg base CX0 1 f fd ["_law_state_here", "_law_many"] (sp__law_draw K) := by
  refine F.ok sc__law_draw (fun vs H Q E h => len__law_draw h) (fun cdv A outer s H vs Q E hr h => ?_)
  obtain ⟨st, scr, many, rfl, ⟨ns, i, v, m, c, hst, hscr, hl, h0⟩, hm0, hm1, q⟩ := h
  have hne := DrAt.ne hst hscr
  refine ⟨_, (Evl.pss_cut (ps_if (pt_c (eqK K hr.units) (e_x K (v_ 0) pe_int) pe_int) (pss_cons (ps_if (pt_c op_geM (e_x K (v_ 0) pe_int) (pe_callB (lenK K) (by rfl) T.z_len PySem.boot_len (pa_cons (e_x K (v_ 0) pe_int) pa_nil))) (pss_one (ps_ret pe_int)) pss_nil) (pss_cons (ps_asg (pe_callTy call_intM (by rfl) T.z_int (by decide +kernel) (pa_cons (e_x K (e_x K (v_ 0) pe_int) (e_x K (v_ 0) pe_int)) pa_nil)) (pg_sub (v_ 0) pe_int set_list)) (pss_cons (ps_asg (pe_op (addK K) (e_x K (v_ 0) pe_int) pe_int) (pg_sub (v_ 0) pe_int set_list)) (pss_cons (ps_asg pe_int (pg_sub (v_ 0) pe_int set_list)) (pss_cons (ps_asg pe_int (pg_sub (v_ 0) pe_int set_list)) (pss_one (ps_if (pt_c op_ltM (e_x K (v_ 0) pe_int) (pe_op op_powM pe_int pe_int)) (pss_one (ps_asg pe_int (pg_sub (v_ 0) pe_int set_list))) pss_nil))))))) pss_nil) (pss_cons (ps_asg (pe_op (addK K) (e_x K (v_ 0) pe_int) pe_int) (pg_sub (v_ 0) pe_int set_list)) (pss_cons (ps_if (pt_c (eqK K hr.units) (e_x K (v_ 0) pe_int) pe_int) (pss_cons (ps_set (i := 5) sc__law_draw.nd rfl (.inl rfl) (pe_op op_modM (pe_callTy call_intM (by rfl) T.z_int (by decide +kernel) (pa_cons (e_x K (v_ 0) pe_int) pa_nil)) (v_ 1))) (pss_cons (ps_asg (pe_op op_divM (pe_callTy call_intM (by rfl) T.z_int (by decide +kernel) (pa_cons (e_x K (v_ 0) pe_int) pa_nil)) (v_ 1)) (pg_sub (v_ 0) pe_int set_list)) (Evl.pss_cut (ps_if (PW.pt (pw_or (pt_c (eqK K hr.units) (e_x K (v_ 0) pe_int) pe_int) (pw_or1 (pt_c op_geM (e_x K (v_ 0) pe_int) pe_int)))) (pss_one (ps_asg pe_int (pg_sub (v_ 0) pe_int set_list))) pss_nil) (pss_one (ps_ret (v_ 5)))))) pss_nil) (pss_cons (ps_set (i := 2) sc__law_draw.nd rfl (.inl rfl) (pe_op op_modM (pe_callTy call_intM (by rfl) T.z_int (by decide +kernel) (pa_cons (pe_op (addK K) (pe_op op_mulSM (e_x K (v_ 0) pe_int) pe_int) (pe_op op_mulSM (e_x K (v_ 0) pe_int) pe_int)) pa_nil)) pe_int)) (pss_cons (ps_set (i := 3) sc__law_draw.nd rfl (.inl rfl) (pe_op op_modM (pe_callTy call_intM (by rfl) T.z_int (by decide +kernel) (pa_cons (pe_op (addK K) (pe_op (addK K) (pe_op op_mulSM (v_ 2) (v_ 2)) (pe_op op_mulSM (e_x K (v_ 0) pe_int) pe_int)) pe_int) pa_nil)) pe_int)) (Evl.pss_cut (ps_if (pt_c op_geM (e_x K (v_ 0) pe_int) pe_int) (pss_one (ps_asg pe_int (pg_sub (v_ 0) pe_int set_list))) pss_nil) (pss_cons (ps_set (i := 4) sc__law_draw.nd rfl (.inl rfl) (pe_op op_modM (pe_callTy call_intM (by rfl) T.z_int (by decide +kernel) (pa_cons (pe_op (addK K) (pe_op op_mulSM (v_ 3) pe_int) (v_ 2)) pa_nil)) pe_int)) (pss_one (ps_ret (pe_op op_modM (pe_callTy call_intM (by rfl) T.z_int (by decide +kernel) (pa_cons (v_ 4) pa_nil)) (v_ 1))))))))))), ?_⟩
  refine ⟨fun σ' H' => σ' = [some (.ref st), some (.int many), none, none, none, none] ∧ ∃ i v m c, H' = upd H st (.lst (stv scr i v m c)) ∧ 0 ≤ i, ?_, ?_⟩
  · refine ⟨_, .inl (SqL.of hst), _, rfl, ?_⟩
    refine ite2 (fun e => ?_) (fun e => ?_)
    · refine ⟨_, .inl (SqL.of hst), _, rfl, _, .inl (SqL.of hst), _, rfl, .inl ⟨_, .inl (SqL.of hscr), ?_⟩⟩
      refine ite2 (fun e1 => ?_) (fun e1 => ?_)
      · have z := q 0 (stv scr i v m c) (by omega) hm0 (DrAt.upd hst hscr hl h0)
        rw [upd_id hst] at z
        exact z
      · have e2 := of_decide_eq_false (Bool.eq_false_iff.mpr e1)
        rw [List.length_map] at e2
        obtain ⟨z, hz⟩ : ∃ z, atI (ns.map V.int) i = some (.int z) := by
          have hi : i.toNat < ns.length := by omega
          refine ⟨ns[i.toNat], ?_⟩
          have hq : atI (ns.map V.int) ((i.toNat : Nat) : Int) = some (.int ns[i.toNat]) := atI_nat (by rw [List.getElem?_map, List.getElem?_eq_getElem hi]; rfl)
          rwa [show ((i.toNat : Nat) : Int) = i by omega] at hq
        refine ⟨_, .inl (SqL.of hst), _, rfl, _, .inl (SqL.of hst), _, rfl, _, .inl (SqL.of hscr), _, hz, ?_⟩
        refine ⟨_, _, _, 2, rfl, rfl, hst, rfl, ?_⟩
        refine ⟨_, .inl (SqL.of upd_same), _, rfl, ?_⟩
        refine ⟨_, _, _, 1, rfl, rfl, upd_same, rfl, ?_⟩
        refine ⟨_, _, _, 3, rfl, rfl, upd_same, rfl, ?_⟩
        refine ⟨_, _, _, 4, rfl, rfl, upd_same, rfl, ?_⟩
        refine ⟨_, .inl (SqL.of upd_same), _, rfl, (by unfold CPow; decide), ?_⟩
        refine ite2 (fun e3 => ?_) (fun e3 => ?_)
        · refine ⟨_, _, _, 3, rfl, rfl, upd_same, rfl, rfl, i + 1, z, 2, 0, ?_, by omega⟩
          rw [upd_upd, upd_upd, upd_upd, upd_upd]
          rfl
        · refine ⟨rfl, i + 1, z, 1, 0, ?_, by omega⟩
          rw [upd_upd, upd_upd, upd_upd]
          rfl
    · exact ⟨rfl, i, v, m, c, (upd_id hst).symm, h0⟩
  · rintro σ' H' ⟨rfl, i, v, m, c, rfl, h0⟩
    have hscr' : ∀ o, upd H st o scr = some (.lst (ns.map V.int)) := fun o => by rw [upd_ne hne]; exact hscr
    refine ⟨_, .inl (SqL.of upd_same), _, rfl, ?_⟩
    refine ⟨_, _, _, 4, rfl, rfl, upd_same, rfl, ?_⟩
    rw [upd_upd]
    refine ⟨_, .inl (SqL.of upd_same), _, rfl, ?_⟩
    refine ite2 (fun e => ?_) (fun e => ?_)
    · refine ⟨_, .inl (SqL.of upd_same), _, rfl, hm0, ?_⟩
      refine ⟨_, .inl (SqL.of upd_same), _, rfl, .inr (wide_div hm0 (b := 200) hm1 (by decide) (by decide)), ?_⟩
      refine ⟨_, _, _, 2, rfl, rfl, upd_same, rfl, ?_⟩
      rw [upd_upd]
      have fin : ∀ m' : Int, Q (.int (v % many)) (upd H st (.lst (stv scr i (v / many) m' (c + 1)))) := fun m' => q _ _ (Int.emod_nonneg _ (by omega)) (Int.emod_lt_of_pos _ hm0) (DrAt.upd hst hscr hl h0)
      refine ⟨fun σ' H' => σ' = [some (.ref st), some (.int many), none, none, none, some (.int (v % many))] ∧ ∃ m', H' = upd H st (.lst (stv scr i (v / many) m' (c + 1))), ?_, ?_⟩
      · refine ⟨_, .inl (SqL.of upd_same), _, rfl, ?_⟩
        refine ite2 (fun e1 => ?_) (fun e1 => ?_)
        · refine ⟨_, _, _, 3, rfl, rfl, upd_same, rfl, rfl, 0, ?_⟩
          rw [upd_upd]
          rfl
        · refine ⟨_, .inl (SqL.of upd_same), _, rfl, ?_⟩
          refine ite2 (fun e1 => ?_) (fun e1 => ?_)
          · refine ⟨_, _, _, 3, rfl, rfl, upd_same, rfl, rfl, 0, ?_⟩
            rw [upd_upd]
            rfl
          · exact ⟨rfl, m, rfl⟩
      · rintro σ' H' ⟨rfl, m', rfl⟩
        exact fin m'
    · refine ⟨_, .inl (SqL.of upd_same), _, rfl, .inl (.inr ⟨by decide, by decide⟩), ?_⟩
      refine ⟨_, .inl (SqL.of upd_same), _, rfl, .inl (.inr ⟨by decide, by decide⟩), (by decide), ?_⟩
      have f0 := Int.emod_nonneg (v * 48271 + (c + 1) * 69621) (by decide : (2147483647 : Int) ≠ 0)
      have f1 := Int.emod_lt_of_pos (v * 48271 + (c + 1) * 69621) (by decide : (0 : Int) < 2147483647)
      refine ⟨.inl (.inl ⟨by omega, by omega⟩), ?_⟩
      refine ⟨_, .inl (SqL.of upd_same), _, rfl, .inl (.inr ⟨by decide, by decide⟩), (by decide), ?_⟩
      have fin : ∀ (m' x : Int), Q (.int (x % many)) (upd H st (.lst (stv scr i v m' (c + 1)))) := fun m' x => q _ _ (Int.emod_nonneg _ (by omega)) (Int.emod_lt_of_pos _ hm0) (DrAt.upd hst hscr hl h0)
      refine ⟨fun σ' H' => (∃ a b, σ' = [some (.ref st), some (.int many), some (.int a), some (.int b), none, none]) ∧ ∃ m', H' = upd H st (.lst (stv scr i v m' (c + 1))), ?_, ?_⟩
      · refine ⟨_, .inl (SqL.of upd_same), _, rfl, ?_⟩
        refine ite2 (fun e1 => ?_) (fun e1 => ?_)
        · refine ⟨_, _, _, 3, rfl, rfl, upd_same, rfl, ⟨_, _, rfl⟩, 0, ?_⟩
          rw [upd_upd]
          rfl
        · exact ⟨⟨_, _, rfl⟩, m, rfl⟩
      · rintro σ' H' ⟨⟨a, b, rfl⟩, m', rfl⟩
        refine ⟨.inl (.inr ⟨by decide, by decide⟩), (by decide), hm0, ?_⟩
        exact fin m' _

/-! ### _law_state -/
def sp__law_state (K : PySem.W.Frag) : Sp := fun vs H Q _ => ∃ (a : Addr) (ns : List Int), vs = [.ref a] ∧ SqL K H a (ns.map V.int) ∧ ns.length ≤ 63 ∧
  ∀ (H' : Hp) (st scr : Addr), Same H H' → H st = none → H scr = none → DrAt H' st scr → Q (.ref st) H'
theorem len__law_state {vs : List V} {H : Hp} {Q : VK} {E : XK} (h : sp__law_state K vs H Q E) : vs.length = 1 := by
  obtain ⟨_, _, rfl, _⟩ := h
  rfl
theorem ok__law_state {f : Addr} {fd : FuncData} (F : Fun K "_law_state" "_law_state" s__law_state f fd) (T : Gs K mg t_BOUND t_DIGITS t_LETTERS t_LONGEST_INTEGER t_LONGEST_NAME a_MARKS a_RESERVED a_SIGNS a_BadName a_BadNumber a_BadText a_Change a_ElseputError a_Reader a_TooLarge) : FnOk P w K mg base CX0 1 f fd ["_law_script"] (sp__law_state K) := by
  refine F.ok sc__law_state (fun vs H Q E h => len__law_state h) (fun cdv A outer s H vs Q E hr h => ?_)
  obtain ⟨a, ns, rfl, hS, hl, q⟩ := h
  refine ⟨_, (pss_one (ps_ret (pe_lst (pa_cons (pe_callTy (listK K) (by rfl) T.z_list (by decide +kernel) (pa_cons (v_ 0) pa_nil)) (pa_cons pe_int (pa_cons pe_int (pa_cons pe_int (pa_cons pe_int pa_nil)))))))), ?_⟩
  refine ⟨_, _, rfl, .inl hS, fun l nl => ?_⟩
  refine ⟨(by show 5 ≤ sizeLine; decide), fun st nst => ?_⟩
  have hne := new_ne nst
  refine q _ st l ((same_new nl).trans (same_new nst)) (free_new nst) nl ⟨ns, 0, 0, 0, 0, upd_same, ?_, hl, by omega⟩
  rw [upd_ne hne.symm, upd_same]

/-! ### _law_pick -/
theorem at_list {α : Type} {xs : List α} {r : Int} (h0 : 0 ≤ r) (h1 : r < xs.length) : ∃ x, atI xs r = some x ∧ x ∈ xs := by
  have hi : r.toNat < xs.length := by omega
  refine ⟨xs[r.toNat], ?_, List.getElem_mem hi⟩
  have hq : atI xs ((r.toNat : Nat) : Int) = some xs[r.toNat] := atI_nat (List.getElem?_eq_getElem hi)
  rwa [show ((r.toNat : Nat) : Int) = r by omega] at hq
theorem at_str {z : Str} {r : Int} (h0 : 0 ≤ r) (h1 : r < z.length) : ∃ c, atI z.cps.toList r = some c ∧ c ∈ z.cps.toList := at_list h0 (by rw [len_cps]; exact h1)
theorem many_small {m : Int} (h0 : 0 < m) (h1 : m ≤ 1000000000) : m.natAbs < 2 ^ 200 := Nat.lt_of_le_of_lt (show m.natAbs ≤ 2 ^ 30 by omega) (Nat.pow_lt_pow_right (by decide) (by decide))
def sp__law_pick (K : PySem.W.Frag) : Sp := fun vs H Q _ => ∃ (st scr : Addr) (v : V), vs = [.ref st, v] ∧ DrAt H st scr ∧
  ((∃ z : Str, v = .str z ∧ 0 < z.length ∧ z.length ≤ 1000 ∧ ∀ (c : Nat) (l : List V), c ∈ z.cps.toList → DrAt (upd H st (.lst l)) st scr → Q (.str ⟨#[c]⟩) (upd H st (.lst l))) ∨
    ∃ (p : Addr) (xs : List V), v = .ref p ∧ H p = some (.lst xs) ∧ p ≠ st ∧ 0 < xs.length ∧ xs.length ≤ 1000 ∧ ∀ (x : V) (l : List V), x ∈ xs → DrAt (upd H st (.lst l)) st scr → Q x (upd H st (.lst l)))
theorem len__law_pick {vs : List V} {H : Hp} {Q : VK} {E : XK} (h : sp__law_pick K vs H Q E) : vs.length = 2 := by
  obtain ⟨_, _, _, rfl, _⟩ := h
  rfl
theorem ok__law_pick {f : Addr} {fd : FuncData} {f__law_draw : Addr} {fd__law_draw : FuncData} (F : Fun K "_law_pick" "_law_pick" s__law_pick f fd) (T : Gs K mg t_BOUND t_DIGITS t_LETTERS t_LONGEST_INTEGER t_LONGEST_NAME a_MARKS a_RESERVED a_SIGNS a_BadName a_BadNumber a_BadText a_Change a_ElseputError a_Reader a_TooLarge) (c__law_draw : Cal P w K mg base CX0 1 "_law_draw" f__law_draw fd__law_draw ["_law_state_here", "_law_many"] (sp__law_draw K)) : FnOk P w K mg base CX0 2 f fd ["_law_state_here", "_law_row"] (sp__law_pick K) := by
  refine F.ok sc__law_pick (fun vs H Q E h => len__law_pick h) (fun cdv A outer s H vs Q E hr h => ?_)
  obtain ⟨st, scr, v, rfl, hd, h⟩ := h
  refine ⟨_, (pss_one (ps_ret (e_x K (v_ 1) (pe_call c__law_draw.G (hr.mono (by first | decide | omega)) rfl c__law_draw.m c__law_draw.kp c__law_draw.b .nil pass0 (pa_cons (v_ 0) (pa_cons (pe_callB (lenK K) (by rfl) T.z_len PySem.boot_len (pa_cons (v_ 1) pa_nil)) pa_nil)))))), ?_⟩
  rcases h with ⟨z, rfl, h0, h1, q⟩ | ⟨p, xs, rfl, hp, hne, h0, h1, q⟩
  · refine ⟨line_of (by omega), st, scr, _, rfl, hd, by omega, many_small (by omega) (by omega), fun r l r0 r1 hd' => ?_⟩
    obtain ⟨c, hc, hm⟩ := at_str r0 r1
    exact ⟨line_of (by omega), c, hc, q c l hm hd'⟩
  · refine .inl ⟨_, .inl (SqL.of hp), st, scr, _, rfl, hd, by omega, many_small (by omega) (by omega), fun r l r0 r1 hd' => ?_⟩
    obtain ⟨x, hx, hm⟩ := at_list r0 r1
    exact ⟨_, .inl (SqL.of (by rw [upd_ne hne]; exact hp)), x, hx, q x l hm hd'⟩

/-! ### _law_mixed -/
theorem cutV_take (xs : List V) {k : Int} (h : 0 ≤ k) : cutV xs none (some k) = xs.take k.toNat := by
  unfold cutV
  have e := HT.sIx_nat xs.length xs.length k.toNat
  rw [show ((k.toNat : Nat) : Int) = k by omega] at e
  rw [e, HT.sIx_none, List.drop_zero]
  by_cases hk : k.toNat ≤ xs.length
  · rw [Nat.min_eq_left hk, Nat.sub_zero]
  · rw [Nat.min_eq_right (by omega), Nat.sub_zero, List.take_length, List.take_of_length_le (by omega)]
theorem cutV_drop (xs : List V) {k : Int} (h : 0 ≤ k) : cutV xs (some k) none = xs.drop k.toNat := by
  unfold cutV
  have e := HT.sIx_nat xs.length 0 k.toNat
  rw [show ((k.toNat : Nat) : Int) = k by omega] at e
  rw [e, HT.sIx_none]
  by_cases hk : k.toNat ≤ xs.length
  · rw [Nat.min_eq_left hk, List.take_of_length_le (by rw [List.length_drop]; omega)]
  · rw [Nat.min_eq_right (by omega), List.drop_of_length_le (Nat.le_refl _), List.drop_of_length_le (by omega)]
    exact List.take_nil
def sp__law_mixed (K : PySem.W.Frag) : Sp := fun vs H Q _ => ∃ (st scr p : Addr) (xs : List V), vs = [.ref st, .ref p] ∧ DrAt H st scr ∧ H p = some (.lst xs) ∧ p ≠ st ∧ xs.length ≤ 1000 ∧
  ∀ (H' : Hp) (r : Addr) (ys : List V), Bt st H H' → DrAt H' st scr → H r = none → H' r = some (.lst ys) → ys.Perm xs → Q (.ref r) H'
theorem len__law_mixed {vs : List V} {H : Hp} {Q : VK} {E : XK} (h : sp__law_mixed K vs H Q E) : vs.length = 2 := by
  obtain ⟨_, _, _, _, rfl, _⟩ := h
  rfl
theorem ok__law_mixed {f : Addr} {fd : FuncData} {f__law_draw : Addr} {fd__law_draw : FuncData} (F : Fun K "_law_mixed" "_law_mixed" s__law_mixed f fd) (T : Gs K mg t_BOUND t_DIGITS t_LETTERS t_LONGEST_INTEGER t_LONGEST_NAME a_MARKS a_RESERVED a_SIGNS a_BadName a_BadNumber a_BadText a_Change a_ElseputError a_Reader a_TooLarge) (c__law_draw : Cal P w K mg base CX0 1 "_law_draw" f__law_draw fd__law_draw ["_law_state_here", "_law_many"] (sp__law_draw K)) : FnOk P w K mg base CX0 2 f fd ["_law_state_here", "_law_row"] (sp__law_mixed K) := by
  refine F.ok sc__law_mixed (fun vs H Q E h => len__law_mixed h) (fun cdv A outer s H vs Q E hr h => ?_)
  obtain ⟨st, scr, p, xs, rfl, hd, hp, hne, hl, q⟩ := h
  refine ⟨_, (pss_cons (ps_set (i := 2) sc__law_mixed.nd rfl (.inl rfl) (pe_callTy (listK K) (by rfl) T.z_list (by decide +kernel) (pa_cons (v_ 1) pa_nil))) (pss_cons (ps_set (i := 3) sc__law_mixed.nd rfl (.inl rfl) (pe_lst pa_nil)) (pss_cons (ps_for PassesOwn.never rfl (pi_range1 rfl T.z_range (pa_cons (pe_callB (lenK K) (by rfl) T.z_len PySem.boot_len (pa_cons (v_ 1) pa_nil)) pa_nil)) (pg_name (i := 4) sc__law_mixed.nd rfl (.inl rfl)) (pss_cons (ps_set (i := 5) sc__law_mixed.nd rfl (.inl rfl) (pe_call c__law_draw.G (hr.mono (by first | decide | omega)) rfl c__law_draw.m c__law_draw.kp c__law_draw.b .nil pass0 (pa_cons (v_ 0) (pa_cons (pe_callB (lenK K) (by rfl) T.z_len PySem.boot_len (pa_cons (v_ 2) pa_nil)) pa_nil)))) (pss_cons (ps_expr (pe_bm PySem.F.plainAttrs_list PySem.F.slot_list_append PySem.F.type_list_append mt_append (v_ 3) (pa_cons (e_x K (v_ 2) (v_ 5)) pa_nil))) (pss_one (ps_set (i := 2) sc__law_mixed.nd rfl (.inl rfl) (pe_op (addK K) (pe_slice (slK K) (v_ 2) po_none (po_some (v_ 5))) (pe_slice (slK K) (v_ 2) (po_some (pe_op (addK K) (v_ 5) pe_int)) po_none))))))) (pss_one (ps_ret (v_ 3)))))), ?_⟩
  refine ⟨_, _, rfl, .inl (SqL.of hp), fun t nt => ?_⟩
  refine ⟨Nat.zero_le _, fun r nr => ?_⟩
  have tr := new_ne nr
  have hr0 := free_new nr
  have hd0 := (hd.new (same_new (o := .lst xs) nt)).new (same_new (o := .lst []) nr)
  have ts : t ≠ st := hd.ne_new nt
  have rs : r ≠ st := hd.ne_new hr0
  have rc : r ≠ scr := hd.ne_scr hr0
  refine .inl ⟨_, .inl (SqL.of (by rw [upd_ne (ne_of_none hp hr0), upd_ne (ne_of_none hp nt)]; exact hp)), xs.length, rfl, by omega, by omega, ?_⟩
  refine for_range (lo := 0) (n := xs.length) (fun i σ' H' => ∃ (t : Addr) (rest ys : List V) (y z : Option V), σ' = [some (.ref st), some (.ref p), some (.ref t), some (.ref r), y, z] ∧ Bt st H H' ∧ DrAt H' st scr ∧ t ≠ st ∧ t ≠ r ∧ H' t = some (.lst rest) ∧ H' r = some (.lst ys) ∧ rest.length + i = xs.length ∧ ys.length = i ∧ (rest ++ ys).Perm xs) ?_ ?_ ?_
  · exact ⟨t, xs, [], _, _, rfl, .same ((same_new nt).trans (same_new nr)), hd0, ts, tr.symm, by rw [upd_ne tr.symm, upd_same], upd_same, rfl, rfl, by rw [List.append_nil]⟩
  · rintro i σ' H' hi ⟨t, rest, ys, y, z, rfl, bt, hd, ts, tr, ht, hr, l1, l2, m1⟩
    refine .inl ⟨_, .inl (SqL.of ht), st, scr, _, rfl, hd, by omega, many_small (by omega) (by omega), fun a l a0 a1 hd' => ?_⟩
    have ht1 : upd H' st (.lst l) t = some (.lst rest) := by rw [upd_ne ts]; exact ht
    have hr1 : upd H' st (.lst l) r = some (.lst ys) := by rw [upd_ne rs]; exact hr
    obtain ⟨x, hx, hm⟩ := at_list a0 a1
    refine ⟨.inl ⟨rfl, _, SqL.of hr1⟩, _, .inl (SqL.of ht1), x, hx, r, ys, x, rfl, rfl, hr1, line_lt (by omega), ?_⟩
    have hd2 := hd'.at (o := .lst (ys ++ [x])) rs rc
    have ht2 : upd (upd H' st (.lst l)) r (.lst (ys ++ [x])) t = some (.lst rest) := by rw [upd_ne tr]; exact ht1
    refine ⟨a, rfl, .inl ⟨rest, SqL.of ht2, fun u nu => ?_⟩⟩
    rw [cutV_take _ a0]
    have ht3 := same_new (o := .lst (rest.take a.toNat)) nu _ _ ht2
    refine ⟨a + 1, rfl, .inl ⟨rest, SqL.of ht3, fun v nv => ?_⟩⟩
    rw [cutV_drop _ (by omega)]
    have hu := same_new (o := .lst (rest.drop (a + 1).toNat)) nv _ _ (upd_same (H := upd (upd H' st (.lst l)) r (.lst (ys ++ [x]))) (a := u) (o := .lst (rest.take a.toNat)))
    refine .inl ⟨_, _, hu, upd_same, line_of (by rw [List.length_take, List.length_drop]; omega), fun k nk => ?_⟩
    have sm := ((same_new (o := .lst (rest.take a.toNat)) nu).trans (same_new (o := .lst (rest.drop (a + 1).toNat)) nv)).trans (same_new (o := .lst (rest.take a.toNat ++ rest.drop (a + 1).toNat)) nk)
    have hd3 := hd2.new sm
    have kn := free_new (free_new nk)
    refine ⟨k, _, ys ++ [x], _, _, rfl, ?_, hd3, hd2.ne_new kn, (ne_of_none upd_same kn).symm, upd_same, sm _ _ upd_same, ?_, by rw [List.length_append, l2]; rfl, ?_⟩
    · intro b o nb hb
      refine sm _ _ ?_
      have := bt b o nb hb
      rw [upd_ne (ne_of_none hb hr0), upd_ne nb]
      exact this
    · rw [List.length_append, List.length_take, List.length_drop]
      omega
    · have hx' : rest[a.toNat]? = some x := by
        obtain ⟨x', e1, e2⟩ : ∃ x', rest[a.toNat]? = some x' ∧ atI rest a = some x' := by
          have hlt : a.toNat < rest.length := by omega
          refine ⟨_, List.getElem?_eq_getElem hlt, ?_⟩
          have := atI_nat (List.getElem?_eq_getElem hlt)
          rwa [show ((a.toNat : Nat) : Int) = a by omega] at this
        rw [hx] at e2
        cases e2
        exact e1
      have hr' : rest = rest.take a.toNat ++ x :: rest.drop (a + 1).toNat := by
        obtain ⟨h1, h2⟩ := List.getElem?_eq_some_iff.mp hx'
        rw [show (a + 1).toNat = a.toNat + 1 by omega, ← h2, ← List.drop_eq_getElem_cons h1, List.take_append_drop]
      refine List.Perm.trans ?_ m1
      rw [← List.append_assoc]
      have p1 : (rest.take a.toNat ++ rest.drop (a + 1).toNat ++ ys ++ [x]).Perm (rest.take a.toNat ++ (x :: rest.drop (a + 1).toNat) ++ ys) := by
        refine (List.perm_append_comm (l₁ := rest.take a.toNat ++ rest.drop (a + 1).toNat ++ ys) (l₂ := [x])).trans ?_
        rw [List.append_assoc, List.append_assoc]
        exact (List.perm_middle (a := x) (l₁ := rest.take a.toNat) (l₂ := rest.drop (a + 1).toNat ++ ys)).symm
      rw [← hr'] at p1
      exact p1
  · rintro σ' H' ⟨t, rest, ys, y, z, rfl, bt, hd, ts, tr, ht, hr, l1, l2, m1⟩
    refine q H' r ys bt hd hr0 hr ?_
    have : rest = [] := List.eq_nil_of_length_eq_zero (by omega)
    rw [this] at m1
    exact m1
end
section
variable {P : Program} {w : World} {K : PySem.W.Frag} {mg : Str → Option Value} {base : Heap}
variable {t_BOUND t_DIGITS t_LETTERS t_LONGEST_INTEGER t_LONGEST_NAME : Tok} {a_MARKS a_RESERVED a_SIGNS a_BadName a_BadNumber a_BadText a_Change a_ElseputError a_Reader a_TooLarge : Addr}
/-- a content -/
abbrev Ct := List (Key × V)
/-! ### _law_same -/
def sp__law_is_int (K : PySem.W.Frag) : Sp := fun vs H Q _ => ∃ i : Int, vs = [.int i] ∧ Q (.bl true) H
theorem len__law_is_int {vs : List V} {H : Hp} {Q : VK} {E : XK} (h : sp__law_is_int K vs H Q E) : vs.length = 1 := by
  obtain ⟨_, rfl, _⟩ := h
  rfl
theorem ok__law_is_int {f : Addr} {fd : FuncData} (F : Fun K "_law_is_int" "_law_is_int" s__law_is_int f fd) (T : Gs K mg t_BOUND t_DIGITS t_LETTERS t_LONGEST_INTEGER t_LONGEST_NAME a_MARKS a_RESERVED a_SIGNS a_BadName a_BadNumber a_BadText a_Change a_ElseputError a_Reader a_TooLarge) : FnOk P w K mg base CX0 1 f fd ["_law_thing"] (sp__law_is_int K) := by
  refine F.ok sc__law_is_int (fun vs H Q E h => len__law_is_int h) (fun cdv A outer s H vs Q E hr h => ?_)
  obtain ⟨i, rfl, q⟩ := h
  refine ⟨_, (pss_one (ps_ret (pe_andM (pe_callB (isiK K) (by rfl) T.z_isinstance (by decide +kernel) (pa_cons (v_ 0) (pa_cons (pe_bltn (v := .ty "int") (u := .type "int") (by rfl) T.z_int (by decide +kernel) rfl) pa_nil))) (pe_one (pe_notM (pe_callB (isiK K) (by rfl) T.z_isinstance (by decide +kernel) (pa_cons (v_ 0) (pa_cons (pe_bltn (v := .ty "bool") (u := .type "bool") (by rfl) T.z_bool (by decide +kernel) rfl) pa_nil)))))))), ?_⟩
  refine ⟨_, _, _, _, true, rfl, .ty _, .base (.int i), kit_ty (by decide +kernel), ?_⟩
  exact ⟨_, _, _, _, false, rfl, .ty _, .base (.int i), kit_ty (by decide +kernel), q⟩
def SameV (H : Hp) : Nat → V → V → Prop
  | 0, _, _ => False
  | n + 1, x, y => (∃ i : Int, x = .int i ∧ y = .int i) ∨ (∃ z : Str, x = .str z ∧ y = .str z) ∨ (∃ (p q : Addr) (xs ys : List V), x = .ref p ∧ y = .ref q ∧ ((H p = some (.lst xs) ∧ H q = some (.lst ys)) ∨ (H p = some (.tup xs) ∧ H q = some (.tup ys))) ∧
      xs.length = ys.length ∧ ys.length ≤ 1000 ∧ ∀ (i : Nat) (a b : V), xs[i]? = some a → ys[i]? = some b → SameV H n a b) ∨
      ∃ (p q : Addr) (ks ls : Ct), x = .ref p ∧ y = .ref q ∧ H p = some (.dK ks) ∧ H q = some (.dK ls) ∧ ks.length = ls.length ∧ n ≠ 0 ∧ ∀ (i : Nat) (k : Key) (v : V), ls[i]? = some (k, v) → ∃ m : Int, valV ls k = some (.int m) ∧ valV ks k = some (.int m)
def spSame (n : Nat) : Sp := fun vs H Q _ => ∃ x y : V, vs = [x, y] ∧ SameV H n x y ∧ Q (.bl true) H
theorem len_same {n : Nat} {vs : List V} {H : Hp} {Q : VK} {E : XK} (h : spSame n vs H Q E) : vs.length = 2 := by
  obtain ⟨_, _, rfl, _⟩ := h
  rfl
theorem same_step {n k : Nat} {f : Addr} {fd : FuncData} {f__law_is_int : Addr} {fd__law_is_int : FuncData} (F : Fun K "_law_same" "_law_same" s__law_same f fd) (T : Gs K mg t_BOUND t_DIGITS t_LETTERS t_LONGEST_INTEGER t_LONGEST_NAME a_MARKS a_RESERVED a_SIGNS a_BadName a_BadNumber a_BadText a_Change a_ElseputError a_Reader a_TooLarge)
    (c__law_is_int : Cal P w K mg base CX0 1 "_law_is_int" f__law_is_int fd__law_is_int ["_law_thing"] (sp__law_is_int K)) (c__law_same : Cal P w K mg base CX0 k "_law_same" f fd ["_law_actual", "_law_due"] (spSame n)) (hk : 1 ≤ k) : FnOk P w K mg base CX0 (k + 1) f fd ["_law_actual", "_law_due"] (spSame (n + 1)) := by
  refine F.ok sc__law_same (fun vs H Q E h => len_same h) (fun cdv A outer s H vs Q E hr h => ?_)
  obtain ⟨x, y, rfl, h, q⟩ := h
  refine ⟨_, (pss_cons (ps_if (pt_c op_isM (v_ 1) pe_non) (pss_one (ps_ret (pe_c op_isM (v_ 0) pe_non))) pss_nil) (pss_cons (ps_if (pt_c op_isM (v_ 1) pe_bl) (pss_one (ps_ret (pe_c op_isM (v_ 0) pe_bl))) pss_nil) (pss_cons (ps_if (pt_c op_isM (v_ 1) pe_bl) (pss_one (ps_ret (pe_c op_isM (v_ 0) pe_bl))) pss_nil) (pss_cons (ps_if (pt_t K (pe_callB (isiK K) (by rfl) T.z_isinstance (by decide +kernel) (pa_cons (v_ 1) (pa_cons (pe_bltn (v := .ty "int") (u := .type "int") (by rfl) T.z_int (by decide +kernel) rfl) pa_nil)))) (pss_one (ps_ret (pe_andM (pe_call c__law_is_int.G (hr.mono (by first | decide | omega)) rfl c__law_is_int.m c__law_is_int.kp c__law_is_int.b .nil pass0 (pa_cons (v_ 0) pa_nil)) (pe_one (pe_c (eqK K hr.units) (v_ 0) (v_ 1)))))) pss_nil) (pss_cons (ps_if (pt_t K (pe_callB (isiK K) (by rfl) T.z_isinstance (by decide +kernel) (pa_cons (v_ 1) (pa_cons (pe_bltn (v := .ty "str") (u := .type "str") (by rfl) T.z_str (by decide +kernel) rfl) pa_nil)))) (pss_one (ps_ret (pe_andM (pe_callB (isiK K) (by rfl) T.z_isinstance (by decide +kernel) (pa_cons (v_ 0) (pa_cons (pe_bltn (v := .ty "str") (u := .type "str") (by rfl) T.z_str (by decide +kernel) rfl) pa_nil))) (pe_one (pe_c (eqK K hr.units) (v_ 0) (v_ 1)))))) pss_nil) (pss_cons (ps_if (pt_t K (pe_callB (isiK K) (by rfl) T.z_isinstance (by decide +kernel) (pa_cons (v_ 1) (pa_cons (pe_bltn (v := .ty "dict") (u := .type "dict") (by rfl) T.z_dict (by decide +kernel) rfl) pa_nil)))) (pss_cons (ps_if (PW.pt (pw_or (pt_not (pt_t K (pe_callB (isiK K) (by rfl) T.z_isinstance (by decide +kernel) (pa_cons (v_ 0) (pa_cons (pe_bltn (v := .ty "dict") (u := .type "dict") (by rfl) T.z_dict (by decide +kernel) rfl) pa_nil))))) (pw_or1 (pt_c (neK K hr.units) (pe_callB (lenK K) (by rfl) T.z_len PySem.boot_len (pa_cons (v_ 0) pa_nil)) (pe_callB (lenK K) (by rfl) T.z_len PySem.boot_len (pa_cons (v_ 1) pa_nil)))))) (pss_one (ps_ret pe_bl)) pss_nil) (pss_cons (ps_lock (ps_for PassesOwn.never rfl (pi_keys (v_ 1)) (pg_name (i := 3) sc__law_same.nd rfl (.inl rfl)) (pss_one (ps_if (PW.pt (pw_or (pt_cmp (pc_dnotin (hu_of hr) (v_ 3) (v_ 0))) (pw_or1 (pt_not (pt_t K (pe_call c__law_same.G (hr.mono (by first | decide | omega)) rfl c__law_same.m c__law_same.kp c__law_same.b .nil pass0 (pa_cons (pe_dget (hu_of hr) (v_ 0) (v_ 3) (fun _ _ => rfl)) (pa_cons (pe_dget (hu_of hr) (v_ 1) (v_ 3) (fun _ _ => rfl)) pa_nil)))))))) (pss_one (ps_ret pe_bl)) pss_nil)))) (pss_one (ps_ret pe_bl)))) pss_nil) (pss_cons (ps_if (PW.pt (pw_and (pt_t K (pe_callB (isiK K) (by rfl) T.z_isinstance (by decide +kernel) (pa_cons (v_ 1) (pa_cons (pe_bltn (v := .ty "list") (u := .type "list") (by rfl) T.z_list (by decide +kernel) rfl) pa_nil)))) (pw_and1 (pt_not (pt_t K (pe_callB (isiK K) (by rfl) T.z_isinstance (by decide +kernel) (pa_cons (v_ 0) (pa_cons (pe_bltn (v := .ty "list") (u := .type "list") (by rfl) T.z_list (by decide +kernel) rfl) pa_nil)))))))) (pss_one (ps_ret pe_bl)) pss_nil) (pss_cons (ps_if (PW.pt (pw_and (pt_t K (pe_callB (isiK K) (by rfl) T.z_isinstance (by decide +kernel) (pa_cons (v_ 1) (pa_cons (pe_bltn (v := .ty "tuple") (u := .type "tuple") (by rfl) T.z_tuple (by decide +kernel) rfl) pa_nil)))) (pw_and1 (pt_not (pt_t K (pe_callB (isiK K) (by rfl) T.z_isinstance (by decide +kernel) (pa_cons (v_ 0) (pa_cons (pe_bltn (v := .ty "tuple") (u := .type "tuple") (by rfl) T.z_tuple (by decide +kernel) rfl) pa_nil)))))))) (pss_one (ps_ret pe_bl)) pss_nil) (pss_cons (ps_if (pt_c (neK K hr.units) (pe_callB (lenK K) (by rfl) T.z_len PySem.boot_len (pa_cons (v_ 0) pa_nil)) (pe_callB (lenK K) (by rfl) T.z_len PySem.boot_len (pa_cons (v_ 1) pa_nil))) (pss_one (ps_ret pe_bl)) pss_nil) (pss_cons (ps_for PassesOwn.never rfl (pi_range1 rfl T.z_range (pa_cons (pe_callB (lenK K) (by rfl) T.z_len PySem.boot_len (pa_cons (v_ 1) pa_nil)) pa_nil)) (pg_name (i := 2) sc__law_same.nd rfl (.inl rfl)) (pss_one (ps_if (pt_not (pt_t K (pe_call c__law_same.G (hr.mono (by first | decide | omega)) rfl c__law_same.m c__law_same.kp c__law_same.b .nil pass0 (pa_cons (e_x K (v_ 0) (v_ 2)) (pa_cons (e_x K (v_ 1) (v_ 2)) pa_nil))))) (pss_one (ps_ret pe_bl)) pss_nil))) (pss_one (ps_ret pe_bl)))))))))))), ?_⟩
  rcases h with ⟨i, rfl, rfl⟩ | ⟨z, rfl, rfl⟩ | ⟨a, b, xs, ys, rfl, rfl, hh, hl, h1, hs⟩ | ⟨a, b, ks, ls, rfl, rfl, ha, hb, hl, hn, hs⟩
  · refine ⟨_, _, _, _, true, rfl, .ty _, .base (.int i), kit_ty (by decide +kernel), ?_⟩
    refine ⟨i, rfl, ?_⟩
    have e : decide (i = i) = true := decide_eq_true rfl
    rw [← e] at q
    exact q
  · refine ⟨_, _, _, _, false, rfl, .ty _, .base (.str z), kit_ty (by decide +kernel), ?_⟩
    refine ⟨_, _, _, _, true, rfl, .ty _, .base (.str z), kit_ty (by decide +kernel), ?_⟩
    refine ⟨_, _, _, _, true, rfl, .ty _, .base (.str z), kit_ty (by decide +kernel), ?_⟩
    have e : decide (z = z) = true := decide_eq_true rfl
    rw [← e] at q
    exact q
  · rcases hh with ⟨ha, hb⟩ | ⟨ha, hb⟩
    · have tb : TyX K H (.ref b) (.type "list") := .base (.lst hb)
      refine ⟨_, _, _, _, false, rfl, .ty _, tb, kit_ty (by decide +kernel), ?_⟩
      refine ⟨_, _, _, _, false, rfl, .ty _, tb, kit_ty (by decide +kernel), ?_⟩
      refine ⟨_, _, _, _, false, rfl, .ty _, tb, kit_ty (by decide +kernel), ?_⟩
      refine ⟨_, _, _, _, true, rfl, .ty _, tb, kit_ty (by decide +kernel), ?_⟩
      refine ⟨_, _, _, _, true, rfl, .ty _, .base (.lst ha), kit_ty (by decide +kernel), ?_⟩
      refine ⟨_, _, _, _, false, rfl, .ty _, tb, kit_ty (by decide +kernel), ?_⟩
      refine .inl ⟨_, .inl (SqL.of ha), .inl ⟨_, .inl (SqL.of hb), ?_⟩⟩
      refine ite2 (fun e => ?_) (fun _ => ?_)
      · exact absurd e (by rw [hl]; simp)
      refine .inl ⟨_, .inl (SqL.of hb), _, rfl, by omega, by omega, ?_⟩
      refine for_range (lo := 0) (n := ys.length) (fun i σ' H' => H' = H ∧ ∃ y, σ' = [some (.ref a), some (.ref b), y, none]) ⟨rfl, _, rfl⟩ ?_ ?_
      · rintro i σ' H' hi ⟨rfl, y, rfl⟩
        have ex := List.getElem?_eq_getElem (l := xs) (i := i) (by omega)
        have ey := List.getElem?_eq_getElem (l := ys) hi
        refine ⟨_, .inl (SqL.of ha), xs[i], ?_, _, .inl (SqL.of hb), ys[i], ?_, _, _, rfl, hs i _ _ ex ey, ?_⟩
        · rw [show (0 : Int) + i = ((i : Nat) : Int) by omega]
          exact atI_nat ex
        · rw [show (0 : Int) + i = ((i : Nat) : Int) by omega]
          exact atI_nat ey
        exact ⟨rfl, _, rfl⟩
      · rintro σ' H' ⟨rfl, y, rfl⟩
        exact q
    · have tb : TyX K H (.ref b) (.type "tuple") := .base (.tup hb)
      refine ⟨_, _, _, _, false, rfl, .ty _, tb, kit_ty (by decide +kernel), ?_⟩
      refine ⟨_, _, _, _, false, rfl, .ty _, tb, kit_ty (by decide +kernel), ?_⟩
      refine ⟨_, _, _, _, false, rfl, .ty _, tb, kit_ty (by decide +kernel), ?_⟩
      refine ⟨_, _, _, _, false, rfl, .ty _, tb, kit_ty (by decide +kernel), ?_⟩
      refine ⟨_, _, _, _, true, rfl, .ty _, tb, kit_ty (by decide +kernel), ?_⟩
      refine ⟨_, _, _, _, true, rfl, .ty _, .base (.tup ha), kit_ty (by decide +kernel), ?_⟩
      refine .inl ⟨_, .inr (SqT.of ha), .inl ⟨_, .inr (SqT.of hb), ?_⟩⟩
      refine ite2 (fun e => ?_) (fun _ => ?_)
      · exact absurd e (by rw [hl]; simp)
      refine .inl ⟨_, .inr (SqT.of hb), _, rfl, by omega, by omega, ?_⟩
      refine for_range (lo := 0) (n := ys.length) (fun i σ' H' => H' = H ∧ ∃ y, σ' = [some (.ref a), some (.ref b), y, none]) ⟨rfl, _, rfl⟩ ?_ ?_
      · rintro i σ' H' hi ⟨rfl, y, rfl⟩
        have ex := List.getElem?_eq_getElem (l := xs) (i := i) (by omega)
        have ey := List.getElem?_eq_getElem (l := ys) hi
        refine ⟨_, .inr (SqT.of ha), xs[i], ?_, _, .inr (SqT.of hb), ys[i], ?_, _, _, rfl, hs i _ _ ex ey, ?_⟩
        · rw [show (0 : Int) + i = ((i : Nat) : Int) by omega]
          exact atI_nat ex
        · rw [show (0 : Int) + i = ((i : Nat) : Int) by omega]
          exact atI_nat ey
        exact ⟨rfl, _, rfl⟩
      · rintro σ' H' ⟨rfl, y, rfl⟩
        exact q
  · have tb : TyX K H (.ref b) (.type "dict") := .base (.dK hb)
    refine ⟨_, _, _, _, false, rfl, .ty _, tb, kit_ty (by decide +kernel), ?_⟩
    refine ⟨_, _, _, _, false, rfl, .ty _, tb, kit_ty (by decide +kernel), ?_⟩
    refine ⟨_, _, _, _, true, rfl, .ty _, tb, kit_ty (by decide +kernel), ?_⟩
    refine ⟨_, _, _, _, true, rfl, .ty _, .base (.dK ha), kit_ty (by decide +kernel), ?_⟩
    refine .inr ⟨_, ha, .inr ⟨_, hb, ?_⟩⟩
    refine ite2 (fun e => absurd e (by rw [hl]; simp)) (fun _ => ?_)
    refine ⟨b, .dK ls, hb, True.intro, fun od => ?_⟩
    refine ⟨b, od, rfl, .inl ⟨ls, upd_same, ?_⟩⟩
    have rb : Rd (upd H b (.frz od (.dK ls))) b (.dK ls) := .inr ⟨od, upd_same⟩
    have ra : ∃ ks', ks' = ks ∧ Rd (upd H b (.frz od (.dK ls))) a (.dK ks') := by
      by_cases e : a = b
      · rw [e, hb] at ha
        cases ha
        exact ⟨_, rfl, e ▸ rb⟩
      · exact ⟨ks, rfl, .inl (by rw [upd_ne e]; exact ha)⟩
    obtain ⟨_, rfl, ra⟩ := ra
    refine for_it walk_keys (fun i σ' H' => H' = upd H b (.frz od (.dK ls)) ∧ ∃ y, σ' = [some (.ref a), some (.ref b), none, y]) ⟨rfl, _, rfl⟩ (fun i σ' H' _ h => by rw [h.1]; exact upd_same) ?_ ?_
    · rintro i x σ' H2 H3 hi ⟨rfl, y, rfl⟩ ⟨rfl, k, v, hk, rfl⟩
      obtain ⟨m, h1, h2⟩ := hs i k v hk
      have ga : DGet (upd H b (.frz od (.dK ls))) a (kV k) (some (.int m)) := .inl ⟨_, k, ra, rfl, h2.symm⟩
      have gb : DGet (upd H b (.frz od (.dK ls))) b (kV k) (some (.int m)) := .inl ⟨_, k, rb, rfl, h1.symm⟩
      refine ⟨a, _, rfl, ga, _, rfl, ?_⟩
      refine ⟨a, _, rfl, ga, b, _, rfl, gb, _, _, rfl, ?_, ?_⟩
      · cases n with
        | zero => exact absurd rfl hn
        | succ n => exact .inl ⟨m, rfl, rfl⟩
      · exact ⟨rfl, _, rfl⟩
    · rintro σ' H2 ⟨rfl, y, rfl⟩
      refine ⟨upd_same, ?_⟩
      rw [upd_upd, upd_id hb]
      exact q
theorem same_all {f : Addr} {fd : FuncData} {f__law_is_int : Addr} {fd__law_is_int : FuncData} (F : Fun K "_law_same" "_law_same" s__law_same f fd) (T : Gs K mg t_BOUND t_DIGITS t_LETTERS t_LONGEST_INTEGER t_LONGEST_NAME a_MARKS a_RESERVED a_SIGNS a_BadName a_BadNumber a_BadText a_Change a_ElseputError a_Reader a_TooLarge)
    (c__law_is_int : Cal P w K mg base CX0 1 "_law_is_int" f__law_is_int fd__law_is_int ["_law_thing"] (sp__law_is_int K)) (b : Binds K fd ["_law_actual", "_law_due"] []) (kp : PySem.W.keepIn K (.ref f) = true) (m : mg "_law_same" = some (.ref f)) :
    ∀ n : Nat, FnOk P w K mg base CX0 (n + 2) f fd ["_law_actual", "_law_due"] (spSame n)
  | 0 => ⟨fun _ _ _ _ h => len_same h, by
    intro A outer s H args us vs Q E _ _ _ _ h
    obtain ⟨_, _, _, h, _⟩ := h
    exact False.elim h⟩
  | n + 1 => same_step F T c__law_is_int ⟨same_all F T c__law_is_int b kp m n, b, kp, m⟩ (by omega)
def sp__law_same (K : PySem.W.Frag) : Sp := spSame 4
theorem ok__law_same {f : Addr} {fd : FuncData} {f__law_is_int : Addr} {fd__law_is_int : FuncData} (F : Fun K "_law_same" "_law_same" s__law_same f fd) (T : Gs K mg t_BOUND t_DIGITS t_LETTERS t_LONGEST_INTEGER t_LONGEST_NAME a_MARKS a_RESERVED a_SIGNS a_BadName a_BadNumber a_BadText a_Change a_ElseputError a_Reader a_TooLarge)
    (c__law_is_int : Cal P w K mg base CX0 1 "_law_is_int" f__law_is_int fd__law_is_int ["_law_thing"] (sp__law_is_int K)) (b : Binds K fd ["_law_actual", "_law_due"] []) (kp : PySem.W.keepIn K (.ref f) = true) (m : mg "_law_same" = some (.ref f)) :
    FnOk P w K mg base CX0 6 f fd ["_law_actual", "_law_due"] (sp__law_same K) := same_all F T c__law_is_int b kp m 4

end
section
variable {P : Program} {w : World} {K : PySem.W.Frag} {mg : Str → Option Value} {base : Heap}
variable {t_BOUND t_DIGITS t_LETTERS t_LONGEST_INTEGER t_LONGEST_NAME : Tok} {a_MARKS a_RESERVED a_SIGNS a_BadName a_BadNumber a_BadText a_Change a_ElseputError a_Reader a_TooLarge : Addr}
def Bd (i : Int) : Prop := -1000000000000000000000000000000 ≤ i ∧ i ≤ 1000000000000000000000000000000
def sp__law_number (K : PySem.W.Frag) : Sp := fun vs H Q _ => ∃ (st scr : Addr), vs = [.ref st] ∧ DrAt H st scr ∧ ∀ (l : List V) (i : Int), Bd i → DrAt (upd H st (.lst l)) st scr → Q (.int i) (upd H st (.lst l))
theorem len__law_number {vs : List V} {H : Hp} {Q : VK} {E : XK} (h : sp__law_number K vs H Q E) : vs.length = 1 := by
  obtain ⟨_, _, rfl, _⟩ := h
  rfl
theorem p30 : (10 : Int) ^ (30 : Int).toNat = 1000000000000000000000000000000 := by decide +kernel
theorem ok__law_number {f : Addr} {fd : FuncData} {f__law_draw : Addr} {fd__law_draw : FuncData} (F : Fun K "_law_number" "_law_number" s__law_number f fd) (T : Gs K mg t_BOUND t_DIGITS t_LETTERS t_LONGEST_INTEGER t_LONGEST_NAME a_MARKS a_RESERVED a_SIGNS a_BadName a_BadNumber a_BadText a_Change a_ElseputError a_Reader a_TooLarge) (c__law_draw : Cal P w K mg base CX0 1 "_law_draw" f__law_draw fd__law_draw ["_law_state_here", "_law_many"] (sp__law_draw K)) : FnOk P w K mg base CX0 2 f fd ["_law_state_here"] (sp__law_number K) := by
  refine F.ok sc__law_number (fun vs H Q E h => len__law_number h) (fun cdv A outer s H vs Q E hr h => ?_)
  obtain ⟨st, scr, rfl, hd, q⟩ := h
  refine ⟨_, (pss_cons (ps_set (i := 1) sc__law_number.nd rfl (.inl rfl) (pe_call c__law_draw.G (hr.mono (by first | decide | omega)) rfl c__law_draw.m c__law_draw.kp c__law_draw.b .nil pass0 (pa_cons (v_ 0) (pa_cons pe_int pa_nil)))) (pss_cons (ps_if (pt_c op_ltM (v_ 1) pe_int) (pss_one (ps_ret (pe_op op_subM (pe_call c__law_draw.G (hr.mono (by first | decide | omega)) rfl c__law_draw.m c__law_draw.kp c__law_draw.b .nil pass0 (pa_cons (v_ 0) (pa_cons pe_int pa_nil))) pe_int))) pss_nil) (pss_cons (ps_if (pt_c (eqK K hr.units) (v_ 1) pe_int) (pss_one (ps_ret (pe_op op_subM (pe_call c__law_draw.G (hr.mono (by first | decide | omega)) rfl c__law_draw.m c__law_draw.kp c__law_draw.b .nil pass0 (pa_cons (v_ 0) (pa_cons pe_int pa_nil))) pe_int))) pss_nil) (pss_cons (ps_if (pt_c (eqK K hr.units) (v_ 1) pe_int) (pss_one (ps_ret (pe_op op_subM (pe_op op_powM pe_int pe_int) (pe_call c__law_draw.G (hr.mono (by first | decide | omega)) rfl c__law_draw.m c__law_draw.kp c__law_draw.b .nil pass0 (pa_cons (v_ 0) (pa_cons pe_int pa_nil)))))) pss_nil) (pss_cons (ps_if (pt_c (eqK K hr.units) (v_ 1) pe_int) (pss_one (ps_ret (pe_op op_subM (pe_call c__law_draw.G (hr.mono (by first | decide | omega)) rfl c__law_draw.m c__law_draw.kp c__law_draw.b .nil pass0 (pa_cons (v_ 0) (pa_cons pe_int pa_nil))) (pe_op op_powM pe_int pe_int)))) pss_nil) (pss_one (ps_ret (pe_op op_subM (pe_call c__law_draw.G (hr.mono (by first | decide | omega)) rfl c__law_draw.m c__law_draw.kp c__law_draw.b .nil pass0 (pa_cons (v_ 0) (pa_cons (pe_op (addK K) (pe_op op_mulSM pe_int (pe_op op_powM pe_int pe_int)) pe_int) pa_nil))) (pe_op op_powM pe_int pe_int))))))))), ?_⟩
  refine ⟨st, scr, _, rfl, hd, by decide, many_small (by decide) (by decide), fun kd l _ _ hd1 => ?_⟩
  have q : ∀ (l2 : List V) (i : Int), Bd i → DrAt (upd (upd H st (.lst l)) st (.lst l2)) st scr → Q (.int i) (upd (upd H st (.lst l)) st (.lst l2)) := fun l2 i b d => by
    rw [upd_upd] at d ⊢
    exact q l2 i b d
  generalize upd H st (.lst l) = H1 at hd1 q ⊢
  refine ite2 (fun e => ?_) (fun e => ?_)
  · refine ⟨st, scr, _, rfl, hd1, by decide, many_small (by decide) (by decide), fun r l2 r0 r1 hd2 => ?_⟩
    exact q l2 _ (by unfold Bd; omega) hd2
  refine ite2 (fun e => ?_) (fun e => ?_)
  · refine ⟨st, scr, _, rfl, hd1, by decide, many_small (by decide) (by decide), fun r l2 r0 r1 hd2 => ?_⟩
    exact q l2 _ (by unfold Bd; omega) hd2
  refine ite2 (fun e => ?_) (fun e => ?_)
  · refine ⟨(by unfold CPow; decide), ?_⟩
    refine ⟨st, scr, _, rfl, hd1, by decide, many_small (by decide) (by decide), fun r l2 r0 r1 hd2 => ?_⟩
    rw [p30]
    exact q l2 _ (by unfold Bd; omega) hd2
  refine ite2 (fun e => ?_) (fun e => ?_)
  · refine ⟨st, scr, _, rfl, hd1, by decide, many_small (by decide) (by decide), fun r l2 r0 r1 hd2 => ?_⟩
    refine ⟨(by unfold CPow; decide), ?_⟩
    rw [p30]
    exact q l2 _ (by unfold Bd; omega) hd2
  refine ⟨(by unfold CPow; decide), ?_⟩
  rw [p30]
  refine ⟨.inl (.inl ⟨by decide, by decide⟩), ?_⟩
  refine ⟨st, scr, _, rfl, hd1, by decide, by decide +kernel, fun r l2 r0 r1 hd2 => ?_⟩
  refine ⟨(by unfold CPow; decide), ?_⟩
  rw [p30]
  exact q l2 _ (by unfold Bd; omega) hd2
def sp__law_constant (K : PySem.W.Frag) : Sp := sp__law_number K
theorem len__law_constant {vs : List V} {H : Hp} {Q : VK} {E : XK} (h : sp__law_constant K vs H Q E) : vs.length = 1 := len__law_number h
theorem ok__law_constant {f : Addr} {fd : FuncData} {f__law_number : Addr} {fd__law_number : FuncData} {f__law_draw : Addr} {fd__law_draw : FuncData} (F : Fun K "_law_constant" "_law_constant" s__law_constant f fd) (T : Gs K mg t_BOUND t_DIGITS t_LETTERS t_LONGEST_INTEGER t_LONGEST_NAME a_MARKS a_RESERVED a_SIGNS a_BadName a_BadNumber a_BadText a_Change a_ElseputError a_Reader a_TooLarge) (c__law_number : Cal P w K mg base CX0 2 "_law_number" f__law_number fd__law_number ["_law_state_here"] (sp__law_number K)) (c__law_draw : Cal P w K mg base CX0 1 "_law_draw" f__law_draw fd__law_draw ["_law_state_here", "_law_many"] (sp__law_draw K)) : FnOk P w K mg base CX0 3 f fd ["_law_state_here"] (sp__law_constant K) := by
  refine F.ok sc__law_constant (fun vs H Q E h => len__law_constant h) (fun cdv A outer s H vs Q E hr h => ?_)
  obtain ⟨st, scr, rfl, hd, q⟩ := h
  refine ⟨_, (pss_cons (ps_if (pt_c op_ltM (pe_call c__law_draw.G (hr.mono (by first | decide | omega)) rfl c__law_draw.m c__law_draw.kp c__law_draw.b .nil pass0 (pa_cons (v_ 0) (pa_cons pe_int pa_nil))) pe_int) (pss_one (ps_ret (pe_op op_subM (pe_call c__law_draw.G (hr.mono (by first | decide | omega)) rfl c__law_draw.m c__law_draw.kp c__law_draw.b .nil pass0 (pa_cons (v_ 0) (pa_cons pe_int pa_nil))) pe_int))) pss_nil) (pss_one (ps_ret (pe_call c__law_number.G (hr.mono (by first | decide | omega)) rfl c__law_number.m c__law_number.kp c__law_number.b .nil pass0 (pa_cons (v_ 0) pa_nil))))), ?_⟩
  refine ⟨st, scr, _, rfl, hd, by decide, many_small (by decide) (by decide), fun kd l _ _ hd1 => ?_⟩
  have q : ∀ (l2 : List V) (i : Int), Bd i → DrAt (upd (upd H st (.lst l)) st (.lst l2)) st scr → Q (.int i) (upd (upd H st (.lst l)) st (.lst l2)) := fun l2 i b d => by
    rw [upd_upd] at d ⊢
    exact q l2 i b d
  refine ite2 (fun e => ?_) (fun e => ?_)
  · refine ⟨st, scr, _, rfl, hd1, by decide, many_small (by decide) (by decide), fun r l2 r0 r1 hd2 => ?_⟩
    exact q l2 _ (by unfold Bd; omega) hd2
  · exact ⟨st, scr, rfl, hd1, fun l2 i b d => q l2 i b d⟩

/-! ### names -/
/-- small letters, of which the one at p is c -/
def Lt (z : Str) (p c : Nat) : Prop := (∀ d ∈ z.cps.toList, d ∈ letters.cps.toList) ∧ z.cps.toList[p]? = some c ∧ z.length ≤ 12
theorem Lt.name {z : Str} {p c : Nat} (h : Lt z p c) (hr : inV (.str z) resv = false) : isName z = true := by
  unfold isName
  have h0 : ¬ ((z.length : Int) < 1) := by
    have := (List.getElem?_eq_some_iff.mp h.2.1).1
    rw [len_cps] at this
    omega
  have h1 : ¬ ((12 : Int) < z.length) := by have := h.2.2; omega
  rw [decide_eq_false h0, decide_eq_false h1, hr]
  show (z.cps.toList.all fun c => decide (c ∈ letters.cps.toList)) = true
  exact List.all_eq_true.mpr fun d hd => decide_eq_true (h.1 d hd)
theorem resv_strs : resv = (["always", "never", "and", "or", "not", "when", "add", "set", "change", "tell", "refuse", "take", "look", "free", "lock", "keep", "keys", "fields"] : List Str).map V.str := rfl
theorem resv_z {z : Str} (h : inV (.str z) resv = true) : inV (.str (z ++ "z")) resv = false ∧ z.length ≤ 7 := by
  rw [resv_strs, inV_str, decide_eq_true_iff] at h
  have all : (["always", "never", "and", "or", "not", "when", "add", "set", "change", "tell", "refuse", "take", "look", "free", "lock", "keep", "keys", "fields"] : List Str).all (fun z => !inV (.str (z ++ "z")) resv && decide (z.length ≤ 7)) = true := by decide +kernel
  have := List.all_eq_true.mp all z h
  rw [Bool.and_eq_true, Bool.not_eq_true', decide_eq_true_iff] at this
  exact this
end
section
variable {P : Program} {w : World} {K : PySem.W.Frag} {mg : Str → Option Value} {base : Heap}
variable {t_BOUND t_DIGITS t_LETTERS t_LONGEST_INTEGER t_LONGEST_NAME : Tok} {a_MARKS a_RESERVED a_SIGNS a_BadName a_BadNumber a_BadText a_Change a_ElseputError a_Reader a_TooLarge : Addr}
theorem cutS_take (z : Str) {k : Nat} : (cutS z none (some (k : Int))).cps.toList = z.cps.toList.take k := by
  unfold cutS
  rw [List.toList_toArray, HT.sIx_nat, HT.sIx_none, List.drop_zero, Nat.sub_zero, List.take_eq_take_iff, len_cps]
  omega
theorem cutS_drop (z : Str) {k : Nat} : (cutS z (some (k : Int)) none).cps.toList = z.cps.toList.drop k := by
  unfold cutS
  rw [List.toList_toArray, HT.sIx_nat, HT.sIx_none]
  by_cases h : k ≤ z.length
  · rw [Nat.min_eq_left h, List.take_of_length_le (by rw [List.length_drop, len_cps]; omega)]
  · rw [Nat.min_eq_right (by omega), List.drop_of_length_le (by rw [len_cps]; omega), List.drop_of_length_le (by rw [len_cps]; omega), List.take_nil]
theorem letter_at {i : Int} (h0 : 0 ≤ i) (h1 : i < 26) : atI letters.cps.toList i = some (97 + i.toNat) := by
  have all : ∀ j : Fin 26, letters.cps.toList[j.val]? = some (97 + j.val) := by decide +kernel
  have := all ⟨i.toNat, by omega⟩
  have hq := atI_nat this
  rwa [show ((i.toNat : Nat) : Int) = i by omega] at hq
theorem letter_mem {i : Nat} (h1 : i < 26) : (97 + i) ∈ letters.cps.toList := by
  have all : ∀ j : Fin 26, (97 + j.val) ∈ letters.cps.toList := by decide +kernel
  exact all ⟨i, h1⟩
theorem one_len (c : Nat) : (⟨#[c]⟩ : Str).length = 1 := rfl
theorem one_cps (c : Nat) : (⟨#[c]⟩ : Str).cps.toList = [c] := rfl
theorem Lt.z {z : Str} {p c : Nat} (h : Lt z p c) (hl : z.length ≤ 7) : Lt (z ++ "z") p c := by
  refine ⟨fun d hd => ?_, ?_, ?_⟩
  · rw [cps_add] at hd
    rcases List.mem_append.mp hd with e | e
    · exact h.1 d e
    · have : d = 122 := by simpa using (show d ∈ [122] from e)
      rw [this]
      decide +kernel
  · rw [cps_add, List.getElem?_append_left (List.getElem?_eq_some_iff.mp h.2.1).1]
    exact h.2.1
  · rw [len_add]
    show z.length + 1 ≤ 12
    omega
def sp__law_names (K : PySem.W.Frag) : Sp := fun vs H Q _ => ∃ (st scr : Addr) (n : Nat), vs = [.ref st, .int n] ∧ DrAt H st scr ∧ n ≤ 26 ∧
  ∀ (H' : Hp) (p : Addr) (zs : List Str), Bt st H H' → DrAt H' st scr → H p = none → H' p = some (.lst (zs.map V.str)) → zs.length = n → (∀ z ∈ zs, isName z = true ∧ z.length ≤ 12) → zs.Nodup → Q (.ref p) H'
theorem len__law_names {vs : List V} {H : Hp} {Q : VK} {E : XK} (h : sp__law_names K vs H Q E) : vs.length = 2 := by
  obtain ⟨_, _, _, rfl, _⟩ := h
  rfl
theorem ok__law_names {f : Addr} {fd : FuncData} {f__law_draw : Addr} {fd__law_draw : FuncData} (F : Fun K "_law_names" "_law_names" s__law_names f fd) (T : Gs K mg t_BOUND t_DIGITS t_LETTERS t_LONGEST_INTEGER t_LONGEST_NAME a_MARKS a_RESERVED a_SIGNS a_BadName a_BadNumber a_BadText a_Change a_ElseputError a_Reader a_TooLarge) (c__law_draw : Cal P w K mg base CX0 1 "_law_draw" f__law_draw fd__law_draw ["_law_state_here", "_law_many"] (sp__law_draw K)) : FnOk P w K mg base CX0 2 f fd ["_law_state_here", "_law_many"] (sp__law_names K) := by
  refine F.ok sc__law_names (fun vs H Q E h => len__law_names h) (fun cdv A outer s H vs Q E hr h => ?_)
  obtain ⟨st, scr, n, rfl, hd, hn, q⟩ := h
  refine ⟨_, (pss_cons (ps_set (i := 2) sc__law_names.nd rfl (.inl rfl) pe_str) (pss_cons (ps_set (i := 3) sc__law_names.nd rfl (.inl rfl) (pe_call c__law_draw.G (hr.mono (by first | decide | omega)) rfl c__law_draw.m c__law_draw.kp c__law_draw.b .nil pass0 (pa_cons (v_ 0) (pa_cons pe_int pa_nil)))) (pss_cons (ps_set (i := 4) sc__law_names.nd rfl (.inl rfl) (pe_call c__law_draw.G (hr.mono (by first | decide | omega)) rfl c__law_draw.m c__law_draw.kp c__law_draw.b .nil pass0 (pa_cons (v_ 0) (pa_cons pe_int pa_nil)))) (pss_cons (ps_set (i := 5) sc__law_names.nd rfl (.inl rfl) (pe_call c__law_draw.G (hr.mono (by first | decide | omega)) rfl c__law_draw.m c__law_draw.kp c__law_draw.b .nil pass0 (pa_cons (v_ 0) (pa_cons pe_int pa_nil)))) (pss_cons (ps_set (i := 6) sc__law_names.nd rfl (.inl rfl) (pe_call c__law_draw.G (hr.mono (by first | decide | omega)) rfl c__law_draw.m c__law_draw.kp c__law_draw.b .nil pass0 (pa_cons (v_ 0) (pa_cons pe_int pa_nil)))) (pss_cons (ps_set (i := 7) sc__law_names.nd rfl (.inl rfl) pe_str) (pss_cons (ps_for PassesOwn.never rfl (pi_range1 rfl T.z_range (pa_cons pe_int pa_nil)) (pg_name (i := 8) sc__law_names.nd rfl (.inl rfl)) (pss_cons (ps_set (i := 7) sc__law_names.nd rfl (.inl rfl) (pe_op (addK K) (v_ 7) (e_x K (v_ 2) (pe_op op_modM (pe_callTy call_intM (by rfl) T.z_int (by decide +kernel) (pa_cons (v_ 5) pa_nil)) pe_int)))) (pss_one (ps_set (i := 5) sc__law_names.nd rfl (.inl rfl) (pe_op op_divM (pe_callTy call_intM (by rfl) T.z_int (by decide +kernel) (pa_cons (v_ 5) pa_nil)) pe_int))))) (pss_cons (ps_set (i := 9) sc__law_names.nd rfl (.inl rfl) (pe_lst (pa_cons pe_str (pa_cons pe_str (pa_cons pe_str (pa_cons pe_str (pa_cons pe_str (pa_cons pe_str (pa_cons pe_str (pa_cons pe_str (pa_cons pe_str (pa_cons pe_str (pa_cons pe_str (pa_cons pe_str pa_nil)))))))))))))) (pss_cons (ps_set (i := 9) sc__law_names.nd rfl (.inl rfl) (pe_op (addK K) (v_ 9) (pe_lst (pa_cons pe_str (pa_cons pe_str (pa_cons pe_str (pa_cons pe_str (pa_cons pe_str (pa_cons pe_str pa_nil))))))))) (pss_cons (ps_set (i := 10) sc__law_names.nd rfl (.inl rfl) (pe_lst pa_nil)) (pss_cons (ps_for PassesOwn.never rfl (pi_range1 rfl T.z_range (pa_cons (v_ 1) pa_nil)) (pg_name (i := 8) sc__law_names.nd rfl (.inl rfl)) (pss_cons (ps_set (i := 11) sc__law_names.nd rfl (.inl rfl) (e_x K (v_ 2) (pe_op op_modM (pe_callTy call_intM (by rfl) T.z_int (by decide +kernel) (pa_cons (pe_op (addK K) (v_ 4) (pe_op op_mulSM pe_int (v_ 8))) pa_nil)) pe_int))) (Evl.pss_cut (ps_if (pt_c (eqK K hr.units) (v_ 3) pe_int) (pss_one (ps_set (i := 11) sc__law_names.nd rfl (.inl rfl) (pe_op (addK K) (pe_op (addK K) (pe_slice (slK K) (v_ 7) po_none (po_some (v_ 6))) (v_ 11)) (pe_slice (slK K) (v_ 7) (po_some (v_ 6)) po_none)))) pss_nil) (Evl.pss_cut (ps_if (pt_c (eqK K hr.units) (v_ 3) pe_int) (pss_one (ps_set (i := 11) sc__law_names.nd rfl (.inl rfl) (pe_op (addK K) (v_ 11) (pe_slice (slK K) (v_ 7) po_none (po_some (pe_op op_modM (pe_callTy call_intM (by rfl) T.z_int (by decide +kernel) (pa_cons (pe_op (addK K) (pe_op op_mulSM pe_int (v_ 8)) (v_ 6)) pa_nil)) pe_int)))))) pss_nil) (Evl.pss_cut (ps_if (pt_c (eqK K hr.units) (v_ 3) pe_int) (pss_one (ps_set (i := 11) sc__law_names.nd rfl (.inl rfl) (pe_op (addK K) (pe_op (addK K) (pe_slice (slK K) (v_ 7) po_none (po_some pe_int)) (v_ 11)) (v_ 7)))) pss_nil) (Evl.pss_cut (ps_if (pt_c (inK K) (v_ 11) (v_ 9)) (pss_one (ps_set (i := 11) sc__law_names.nd rfl (.inl rfl) (pe_op (addK K) (v_ 11) pe_str))) pss_nil) (pss_one (ps_expr (pe_bm PySem.F.plainAttrs_list PySem.F.slot_list_append PySem.F.type_list_append mt_append (v_ 10) (pa_cons (v_ 11) pa_nil)))))))))) (pss_one (ps_ret (v_ 10)))))))))))))), ?_⟩
  refine ⟨st, scr, _, rfl, hd, by decide, many_small (by decide) (by decide), fun sty l1 s0 s1 hd1 => ?_⟩
  have b1 : Bt st H (upd H st (.lst l1)) := Bt.st
  generalize upd H st (.lst l1) = H1 at hd1 b1 ⊢
  refine ⟨st, scr, _, rfl, hd1, by decide, many_small (by decide) (by decide), fun sh l2 h0 h1 hd2 => ?_⟩
  have b2 := b1.trans (Bt.st (st := st) (o := .lst l2))
  generalize upd H1 st (.lst l2) = H2 at hd2 b2 ⊢
  refine ⟨st, scr, _, rfl, hd2, by decide, many_small (by decide) (by decide), fun cd l3 c0 c1 hd3 => ?_⟩
  have b3 := b2.trans (Bt.st (st := st) (o := .lst l3))
  generalize upd H2 st (.lst l3) = H3 at hd3 b3 ⊢
  refine ⟨st, scr, _, rfl, hd3, by decide, many_small (by decide) (by decide), fun spt l4 p0 p1 hd4 => ?_⟩
  have b4 := b3.trans (Bt.st (st := st) (o := .lst l4))
  generalize upd H3 st (.lst l4) = H4 at hd4 b4 ⊢
  refine ⟨6, rfl, by decide, by decide, ?_⟩
  refine for_range (lo := 0) (n := 6) (fun i σ' H' => ∃ (z : Str) (code : Int) (y : Option V), σ' = [some (.ref st), some (.int n), some (.str letters), some (.int sty), some (.int sh), some (.int code), some (.int spt), some (.str z), y, none, none, none] ∧ H' = H4 ∧ z.length = i ∧ ∀ d ∈ z.cps.toList, d ∈ letters.cps.toList) ?_ ?_ ?_
  · exact ⟨_, _, _, rfl, rfl, rfl, fun _ h => nomatch h⟩
  · rintro i σ' H' hi ⟨z, code, y, rfl, rfl, hz, ha⟩
    refine ⟨by decide, ?_⟩
    have r0 := Int.emod_nonneg code (by decide : (26 : Int) ≠ 0)
    have r1 := Int.emod_lt_of_pos code (by decide : (0 : Int) < 26)
    refine ⟨line_of (by decide +kernel), _, letter_at r0 r1, line_of (by rw [one_len]; omega), ?_⟩
    refine ⟨.inl ⟨by decide, by decide⟩, ?_⟩
    refine ⟨_, _, _, rfl, rfl, by rw [len_add, one_len, hz], fun d hd => ?_⟩
    rw [cps_add, one_cps] at hd
    rcases List.mem_append.mp hd with h | h
    · exact ha d h
    · rw [List.mem_singleton.mp h]
      exact letter_mem (by omega)
  rintro σ' H' ⟨bs, code, y, rfl, rfl, hz, ha⟩
  have hbl : bs.cps.toList.length = 6 := by rw [len_cps]; exact hz
  refine ⟨(by show 12 ≤ sizeLine; decide), fun o no => ?_⟩
  refine ⟨(by show 6 ≤ sizeLine; decide), fun p np => ?_⟩
  have hpo := new_ne np
  refine .inl ⟨_, _, (by rw [upd_ne hpo.symm, upd_same]), upd_same, (by show 18 ≤ sizeLine; decide), fun rv nrv => ?_⟩
  have sm := ((same_new (o := .lst [.str "always", .str "never", .str "and", .str "or", .str "not", .str "when", .str "add", .str "set", .str "change", .str "tell", .str "refuse", .str "take"]) no).trans (same_new (o := .lst [.str "look", .str "free", .str "lock", .str "keep", .str "keys", .str "fields"]) np)).trans (same_new (o := .lst resv) nrv)
  generalize hH5 : upd _ rv _ = H5
  have hrv : H5 rv = some (.lst resv) := by rw [← hH5]; exact upd_same
  have hd5 : DrAt H5 st scr := by rw [← hH5]; exact hd4.new sm
  have b5 : Bt st H H5 := by rw [← hH5]; exact b4.trans (Bt.same (st := st) sm)
  clear hH5
  refine ⟨Nat.zero_le _, fun L nL => ?_⟩
  generalize hH6 : upd _ L _ = H6
  have hrv2 : H6 rv = some (.lst resv) := by rw [← hH6]; exact same_new nL _ _ hrv
  have hd6 : DrAt H6 st scr := by rw [← hH6]; exact hd5.new (same_new nL)
  have b6 : Bt st H H6 := by rw [← hH6]; exact b5.trans (Bt.same (st := st) (same_new nL))
  have L0 : H L = none := b5.free (hd5.ne_new nL) nL
  have eL : H6 L = some (.lst []) := by rw [← hH6]; exact upd_same
  have Ls : L ≠ st := hd5.ne_new nL
  have Lc : L ≠ scr := hd5.ne_scr nL
  have Lrv : rv ≠ L := ne_of_none hrv nL
  clear hH6
  refine ⟨n, rfl, by omega, by omega, ?_⟩
  obtain ⟨ps, hps⟩ : ∃ ps : Nat, ps = if sty = 1 then spt.toNat else if sty = 3 then 5 else 0 := ⟨_, rfl⟩
  refine for_range (lo := 0) (n := n) (fun i σ' H' => ∃ (y z : Option V) (zs : List Str), σ' = [some (.ref st), some (.int n), some (.str letters), some (.int sty), some (.int sh), some (.int code), some (.int spt), some (.str bs), y, some (.ref rv), some (.ref L), z] ∧ H' = upd H6 L (.lst (zs.map V.str)) ∧ zs.length = i ∧
    ∀ (j : Nat) (z : Str), zs[j]? = some z → Lt z ps (97 + ((sh + 7 * (j : Int)) % 26).toNat) ∧ inV (.str z) resv = false) ?_ ?_ ?_
  · exact ⟨_, _, [], rfl, (upd_id eL).symm, rfl, fun j z h => nomatch h⟩
  · rintro i σ' H' hi ⟨y, z, zs, rfl, rfl, hzl, hzs⟩
    have r0 := Int.emod_nonneg (sh + 7 * (0 + (i : Int))) (by decide : (26 : Int) ≠ 0)
    have r1 := Int.emod_lt_of_pos (sh + 7 * (0 + (i : Int))) (by decide : (0 : Int) < 26)
    refine ⟨.inl (.inl ⟨by decide, by decide⟩), by decide, ?_⟩
    refine ⟨line_of (by decide +kernel), _, letter_at r0 r1, ?_⟩
    have hcm := letter_mem (i := ((sh + 7 * (0 + (i : Int))) % 26).toNat) (by omega)
    rw [Int.zero_add] at hcm r0 r1 ⊢
    generalize hcc : 97 + ((sh + 7 * (i : Int)) % 26).toNat = ch at hcm ⊢
    have hrv3 : (upd H6 L (.lst (zs.map V.str))) rv = some (.lst resv) := by rw [upd_ne Lrv]; exact hrv2
    refine ⟨fun σ' H' => ∃ w : Str, σ' = [some (.ref st), some (.int n), some (.str letters), some (.int sty), some (.int sh), some (.int code), some (.int spt), some (.str bs), some (.int i), some (.ref rv), some (.ref L), some (.str w)] ∧ H' = upd H6 L (.lst (zs.map V.str)) ∧ (sty = 1 → Lt w ps ch) ∧ (sty ≠ 1 → w = ⟨#[ch]⟩), ?_, ?_⟩
    · refine ite2 (fun e => ?_) (fun e => ?_)
      · have e : sty = 1 := of_decide_eq_true e
        have l1 := cutS_length bs none (some spt)
        have l2 := cutS_length bs (some spt) none
        have e1 := cutS_take bs (k := spt.toNat)
        have e2 := cutS_drop bs (k := spt.toNat)
        rw [show ((spt.toNat : Nat) : Int) = spt by omega] at e1 e2
        refine ⟨_, rfl, line_of (by omega), line_of (by rw [one_len]; omega), _, rfl, line_of (by omega), line_of (by rw [len_add, one_len]; omega), ?_⟩
        refine ⟨_, rfl, rfl, fun _ => ⟨fun d hd => ?_, ?_, ?_⟩, fun h => absurd e h⟩
        · rw [cps_add, cps_add, e1, e2, one_cps] at hd
          rcases List.mem_append.mp hd with h | h
          · rcases List.mem_append.mp h with h | h
            · exact ha d (List.mem_of_mem_take h)
            · rw [List.mem_singleton.mp h]; exact hcm
          · exact ha d (List.mem_of_mem_drop h)
        · have hps1 : ps = spt.toNat := by rw [hps, if_pos e]
          rw [cps_add, cps_add, e1, e2, one_cps, hps1, List.append_assoc, List.getElem?_append_right (by rw [List.length_take]; omega), List.length_take, hbl, Nat.min_eq_left (by omega), Nat.sub_self]
          rfl
        · rw [len_add, len_add, ← len_cps (cutS bs none (some spt)), ← len_cps (cutS bs (some spt) none), e1, e2, one_len, List.length_take, List.length_drop]
          omega
      · have e : ¬ sty = 1 := of_decide_eq_false (Bool.eq_false_iff.mpr e)
        exact ⟨_, rfl, rfl, fun h => absurd h e, fun _ => rfl⟩
    rintro σ' H' ⟨w, rfl, rfl, g1, g2⟩
    refine ⟨fun σ' H' => ∃ w : Str, σ' = [some (.ref st), some (.int n), some (.str letters), some (.int sty), some (.int sh), some (.int code), some (.int spt), some (.str bs), some (.int i), some (.ref rv), some (.ref L), some (.str w)] ∧ H' = upd H6 L (.lst (zs.map V.str)) ∧ (sty ≠ 3 → Lt w ps ch) ∧ (sty = 3 → w = ⟨#[ch]⟩), ?_, ?_⟩
    · refine ite2 (fun e => ?_) (fun e => ?_)
      · have e : sty = 2 := of_decide_eq_true e
        have hw := g2 (by omega)
        subst hw
        have r2 := Int.emod_nonneg (3 * (i : Int) + spt) (by decide : (7 : Int) ≠ 0)
        have e1 := cutS_take bs (k := ((3 * (i : Int) + spt) % 7).toNat)
        rw [show ((((3 * (i : Int) + spt) % 7).toNat : Nat) : Int) = (3 * (i : Int) + spt) % 7 by omega] at e1
        have l1 := cutS_length bs none (some ((3 * (i : Int) + spt) % 7))
        refine ⟨.inl (.inl ⟨by decide, by decide⟩), by decide, _, rfl, line_of (by omega), line_of (by rw [one_len]; omega), ?_⟩
        refine ⟨_, rfl, rfl, fun _ => ⟨fun d hd => ?_, ?_, ?_⟩, fun h => absurd h (by omega)⟩
        · rw [cps_add, e1, one_cps] at hd
          rcases List.mem_append.mp hd with h | h
          · rw [List.mem_singleton.mp h]; exact hcm
          · exact ha d (List.mem_of_mem_take h)
        · have hps1 : ps = 0 := by rw [hps, if_neg (by omega), if_neg (by omega)]
          rw [cps_add, one_cps, hps1]
          rfl
        · rw [len_add, one_len]
          omega
      · have e : ¬ sty = 2 := of_decide_eq_false (Bool.eq_false_iff.mpr e)
        refine ⟨w, rfl, rfl, fun h3 => ?_, fun h3 => g2 (by omega)⟩
        by_cases h1 : sty = 1
        · exact g1 h1
        · have hw := g2 h1
          subst hw
          refine ⟨fun d hd => ?_, ?_, by rw [one_len]; decide⟩
          · rw [List.mem_singleton.mp hd]; exact hcm
          · have hps1 : ps = 0 := by rw [hps, if_neg h1, if_neg h3]
            rw [hps1]
            rfl
    rintro σ' H' ⟨w, rfl, rfl, g1, g2⟩
    refine ⟨fun σ' H' => ∃ w : Str, σ' = [some (.ref st), some (.int n), some (.str letters), some (.int sty), some (.int sh), some (.int code), some (.int spt), some (.str bs), some (.int i), some (.ref rv), some (.ref L), some (.str w)] ∧ H' = upd H6 L (.lst (zs.map V.str)) ∧ Lt w ps ch, ?_, ?_⟩
    · refine ite2 (fun e => ?_) (fun e => ?_)
      · have e : sty = 3 := of_decide_eq_true e
        have hw := g2 e
        subst hw
        have e1 := cutS_take bs (k := 5)
        have l1 := cutS_length bs none (some 5)
        refine ⟨_, rfl, line_of (by omega), line_of (by rw [one_len]; omega), line_of (by rw [len_add, one_len]; omega), ?_⟩
        refine ⟨_, rfl, rfl, fun d hd => ?_, ?_, ?_⟩
        · rw [cps_add, cps_add, show (cutS bs none (some (5 : Int))).cps.toList = bs.cps.toList.take 5 from e1, one_cps] at hd
          rcases List.mem_append.mp hd with h | h
          · rcases List.mem_append.mp h with h | h
            · exact ha d (List.mem_of_mem_take h)
            · rw [List.mem_singleton.mp h]; exact hcm
          · exact ha d h
        · have hps1 : ps = 5 := by rw [hps, if_neg (by omega), if_pos e]
          rw [cps_add, cps_add, show (cutS bs none (some (5 : Int))).cps.toList = bs.cps.toList.take 5 from e1, one_cps, hps1, List.append_assoc, List.getElem?_append_right (by rw [List.length_take]; omega), List.length_take, hbl]
          rfl
        · rw [len_add, len_add, ← len_cps (cutS bs none (some (5 : Int))), show (cutS bs none (some (5 : Int))).cps.toList = bs.cps.toList.take 5 from e1, one_len, List.length_take]
          omega
      · have e : ¬ sty = 3 := of_decide_eq_false (Bool.eq_false_iff.mpr e)
        exact ⟨w, rfl, rfl, g1 e⟩
    rintro σ' H' ⟨w, rfl, rfl, g1⟩
    refine ⟨fun σ' H' => ∃ w : Str, σ' = [some (.ref st), some (.int n), some (.str letters), some (.int sty), some (.int sh), some (.int code), some (.int spt), some (.str bs), some (.int i), some (.ref rv), some (.ref L), some (.str w)] ∧ H' = upd H6 L (.lst (zs.map V.str)) ∧ Lt w ps ch ∧ inV (.str w) resv = false, ?_, ?_⟩
    · refine ⟨_, .inl (SqL.of hrv3), rfl, rfl, ?_⟩
      refine ite2 (fun e => ?_) (fun e => ?_)
      · have e : inV (.str w) resv = true := e
        obtain ⟨z1, z2⟩ := resv_z e
        exact ⟨line_of (by show w.length + 1 ≤ _; omega), _, rfl, rfl, g1.z z2, z1⟩
      · exact ⟨w, rfl, rfl, g1, Bool.eq_false_iff.mpr e⟩
    rintro σ' H' ⟨w, rfl, rfl, g1, gr⟩
    refine ⟨.inl ⟨rfl, _, SqL.of upd_same⟩, L, _, _, rfl, rfl, upd_same, line_lt (by rw [List.length_map]; omega), ?_⟩
    refine ⟨_, _, zs ++ [w], rfl, ?_, by rw [List.length_append, hzl]; rfl, fun j z hj => ?_⟩
    · rw [upd_upd, List.map_append]
      rfl
    · by_cases h : j < zs.length
      · rw [List.getElem?_append_left h] at hj
        exact hzs j z hj
      · rw [List.getElem?_append_right (by omega)] at hj
        have hj0 : j - zs.length = 0 := by
          have := (List.getElem?_eq_some_iff.mp hj).1
          rw [List.length_singleton] at this
          omega
        rw [hj0] at hj
        cases hj
        rw [show j = i by omega, hcc]
        exact ⟨g1, gr⟩
  · rintro σ' H' ⟨y, z, zs, rfl, rfl, hzl, hzs⟩
    refine q _ L zs ?_ (hd6.at Ls Lc) L0 upd_same (by omega) (fun z hz => ?_) ?_
    · intro b o nb hb
      rw [upd_ne (ne_of_none hb L0)]
      exact b6 b o nb hb
    · obtain ⟨j, hj, e⟩ := List.getElem_of_mem hz
      obtain ⟨h1, h2⟩ := hzs j z (by rw [List.getElem?_eq_getElem hj, e])
      exact ⟨h1.name h2, h1.2.2⟩
    · show List.Pairwise (· ≠ ·) zs
      rw [List.pairwise_iff_getElem]
      intro i j hi hj hij e
      have ej : zs[j]? = some zs[j] := List.getElem?_eq_getElem hj
      have ei : zs[i]? = some zs[j] := by rw [← e]; exact List.getElem?_eq_getElem hi
      obtain ⟨h1, _⟩ := hzs i _ ei
      obtain ⟨h2, _⟩ := hzs j _ ej
      have := h1.2.1.symm.trans h2.2.1
      have := Option.some.inj this
      omega
end
section
variable {P : Program} {w : World} {K : PySem.W.Frag} {mg : Str → Option Value} {base : Heap}
variable {t_BOUND t_DIGITS t_LETTERS t_LONGEST_INTEGER t_LONGEST_NAME : Tok} {a_MARKS a_RESERVED a_SIGNS a_BadName a_BadNumber a_BadText a_Change a_ElseputError a_Reader a_TooLarge : Addr}
/-! ### a change out of rows -/
def Good (xs : List Rw) : Prop := (∀ x ∈ xs, isName x.f = true ∧ x.f.length ≤ 12 ∧ Bd x.n) ∧ (xs.map (·.f)).Nodup ∧ xs.length ≤ 3
theorem followed_ne {x y : Rw} (h : ¬ y.f = x.f) : followedR x [y] = x := by
  unfold followedR
  rw [if_neg h]
  rfl
theorem joined_one {xs : List Rw} {y : Rw} (h : y.f ∉ xs.map (·.f)) : joinedR xs [y] = xs ++ [y] := by
  unfold joinedR
  have h1 : xs.map (fun x => followedR x [y]) = xs := by
    have : ∀ x ∈ xs, followedR x [y] = x := fun x hx => followed_ne fun e => h (List.mem_map.mpr ⟨x, hx, e.symm⟩)
    exact (List.map_congr_left this).trans (List.map_id' xs)
  rw [h1, List.filter_cons, if_pos (by simpa using h)]
  rfl
def sp__law_change (K : PySem.W.Frag) : Sp := fun vs H Q _ => ∃ (p : Addr) (rs : List Addr) (xs : List Rw), vs = [.ref p] ∧ H p = some (.lst (rs.map V.ref)) ∧ RowsL H rs xs ∧ Good xs ∧ ∀ (H' : Hp) (a : Addr), Same H H' → ChAt K H' a xs → Q (.ref a) H'
theorem len__law_change {vs : List V} {H : Hp} {Q : VK} {E : XK} (h : sp__law_change K vs H Q E) : vs.length = 1 := by
  obtain ⟨_, _, _, rfl, _⟩ := h
  rfl
theorem nodup_take {xs : List Rw} {i : Nat} {x : Rw} (h : (xs.map (·.f)).Nodup) (hx : xs[i]? = some x) : x.f ∉ (xs.take i).map (·.f) := by
  intro hm
  rw [List.map_take] at hm
  have hd : (xs.map (·.f))[i]? = some x.f := by rw [List.getElem?_map, hx]; rfl
  obtain ⟨j, hj, e⟩ := List.getElem_of_mem hm
  rw [List.length_take] at hj
  obtain ⟨h1, h2⟩ := List.getElem?_eq_some_iff.mp hd
  rw [List.getElem_take] at e
  have := (List.pairwise_iff_getElem.mp h) j i (by omega) h1 (by omega)
  exact this (e.trans h2.symm)
theorem ok__law_change {f : Addr} {fd : FuncData} {f_Change_none : Addr} {fd_Change_none : FuncData} {p_Change_none : Addr} {f_Change_adding : Addr} {fd_Change_adding : FuncData} {p_Change_adding : Addr} {f_Change_setting : Addr} {fd_Change_setting : FuncData} {p_Change_setting : Addr} {f_Change___rshift__ : Addr} {fd_Change___rshift__ : FuncData} (F : Fun K "_law_change" "_law_change" s__law_change f fd) (T : Gs K mg t_BOUND t_DIGITS t_LETTERS t_LONGEST_INTEGER t_LONGEST_NAME a_MARKS a_RESERVED a_SIGNS a_BadName a_BadNumber a_BadText a_Change a_ElseputError a_Reader a_TooLarge) (c_Change_none : CalS P w K mg base CX0 3 a_Change p_Change_none "none" f_Change_none fd_Change_none [] (sp_Change_none K)) (c_Change_adding : CalS P w K mg base CX0 4 a_Change p_Change_adding "adding" f_Change_adding fd_Change_adding ["field", "number"] (sp_Change_adding K)) (c_Change_setting : CalS P w K mg base CX0 4 a_Change p_Change_setting "setting" f_Change_setting fd_Change_setting ["field", "number"] (sp_Change_setting K)) (c_Change___rshift__ : CalO P w K mg base (L2.CX P w) 3 a_Change .RShift f_Change___rshift__ fd_Change___rshift__ ["self", "other"] (sp_Change___rshift__ K)) : FnOk P w K mg base CX0 5 f fd ["_law_rows"] (sp__law_change K) := by
  refine F.ok sc__law_change (fun vs H Q E h => len__law_change h) (fun cdv A outer s H vs Q E hr h => ?_)
  obtain ⟨p, rs, xs, rfl, hp, hrs, ⟨hg, hnd, hl⟩, q⟩ := h
  refine ⟨_, (pss_cons (ps_set (i := 1) sc__law_change.nd rfl (.inl rfl) (pe_smeth0 (pe_glob (v := .ref a_Change) rfl T.g_Change rfl) c_Change_none.rd c_Change_none.sm c_Change_none.G (hr.mono (by first | decide | omega)) c_Change_none.b pass0)) (pss_cons (ps_for PassesOwn.never rfl (pi_list (v_ 0)) (pg_name (i := 2) sc__law_change.nd rfl (.inl rfl)) (pss_one (ps_if (pt_c (eqK K hr.units) (e_x K (v_ 2) pe_int) pe_str) (pss_one (ps_set (i := 1) sc__law_change.nd rfl (.inl rfl) (pe_op (op_own c_Change___rshift__.op c_Change___rshift__.G (hr.mono (by first | decide | omega)) c_Change___rshift__.b passL) (v_ 1) (pe_smeth (pe_glob (v := .ref a_Change) rfl T.g_Change rfl) c_Change_adding.rd c_Change_adding.sm c_Change_adding.G (hr.mono (by first | decide | omega)) c_Change_adding.b pass0 (pa_cons (e_x K (v_ 2) pe_int) (pa_cons (e_x K (v_ 2) pe_int) pa_nil)))))) (pss_one (ps_set (i := 1) sc__law_change.nd rfl (.inl rfl) (pe_op (op_own c_Change___rshift__.op c_Change___rshift__.G (hr.mono (by first | decide | omega)) c_Change___rshift__.b passL) (v_ 1) (pe_smeth (pe_glob (v := .ref a_Change) rfl T.g_Change rfl) c_Change_setting.rd c_Change_setting.sm c_Change_setting.G (hr.mono (by first | decide | omega)) c_Change_setting.b pass0 (pa_cons (e_x K (v_ 2) pe_int) (pa_cons (e_x K (v_ 2) pe_int) pa_nil))))))))) (pss_one (ps_ret (v_ 1))))), ?_⟩
  refine ⟨rfl, rfl, fun H1 a s1 na hA => ?_⟩
  refine ⟨p, rfl, ⟨_, SqL.of (s1 _ _ hp)⟩, ?_⟩
  refine for_list (K := K) (a := p) (xs := rs.map V.ref) (fun i σ' H2 => ∃ (a : Addr) (y : Option V), σ' = [some (.ref p), some (.ref a), y] ∧ Same H H2 ∧ ChAt K H2 a (xs.take i)) ⟨a, _, rfl, s1, hA⟩ (fun i σ' H2 _ ⟨_, _, _, h, _⟩ => SqL.of (h _ _ hp)) ?_ ?_
  · rintro i v σ' H2 hi ⟨a, y, rfl, sm, hA⟩
    rw [List.getElem?_map] at hi
    obtain ⟨k, hk, rfl⟩ := Option.map_eq_some_iff.mp hi
    obtain ⟨x, hx, hax⟩ := hrs.get hk
    obtain ⟨g1, g2, g3, g4⟩ := hg x (List.mem_of_getElem? hx)
    have hat := sm _ _ hax
    have hj : joinedR (xs.take i) [x] = xs.take (i + 1) := by rw [joined_one (nodup_take hnd hx), take_snoc hx]
    have l1 : (xs.take i).length ≤ 10 := by rw [List.length_take]; omega
    have l2 : (xs.take (i + 1)).length ≤ 3 := by rw [List.length_take]; omega
    have join : ∀ {H3 : Hp} {b : Addr} {Q' : VK} {E' : XK}, Same H2 H3 → ChAt K H3 b [x] → (∀ H4 a', Same H3 H4 → ChAt K H4 a' (xs.take (i + 1)) → Q' (.ref a') H4) → sp_Change___rshift__ K [.ref a, .ref b] H3 Q' E' := fun s3 hb k => by
      refine ⟨a, _, xs.take i, [x], rfl, hA.same s3, hb, l1, by show 1 ≤ 10; decide, ?_⟩
      unfold Joins
      rw [hj, if_pos l2]
      exact fun H4 a' s4 _ h4 => k H4 a' s4 h4
    refine ⟨_, .inr (SqT.of hat), .str (deed x.add), rfl, ?_⟩
    obtain ⟨C, dx, t, us, hC, ha, _⟩ := id hA
    cases hC.symm.trans T.n_Change
    have fin : ∀ {H3 : Hp} {b : Addr}, Same H2 H3 → ChAt K H3 b [x] → rOwn a_Change (sp_Change___rshift__ K) E0 (.ref a) (.ref b) H3 fun z H4 => ∃ (a : Addr) (y : Option V), [some (V.ref p), some z, some (V.ref k)] = [some (V.ref p), some (V.ref a), y] ∧ Same H H4 ∧ ChAt K H4 a (xs.take (i + 1)) := fun s3 hb => by
      obtain ⟨C2, dy, t2, us2, hC2, hb2, _⟩ := id hb
      cases hC2.symm.trans T.n_Change
      exact ⟨a, _, dx, _, dy, _, rfl, rfl, s3 _ _ ha, hb2, join s3 hb fun H4 a' s4 h4 => ⟨a', _, rfl, (sm.trans s3).trans s4, h4⟩⟩
    refine ite2 (fun e => ?_) (fun e => ?_)
    · have e : x.add = true := deed_add.symm.trans e
      refine ⟨rfl, _, .inr (SqT.of hat), .str x.f, rfl, _, .inr (SqT.of hat), .int x.n, rfl, _, _, rfl, by omega, g1, g3, g4, fun H3 b s3 nb hb => ?_⟩
      have hb : ChAt K H3 b [x] := by
        have : (⟨x.f, true, x.n⟩ : Rw) = x := by rw [← e]
        rw [← this]
        exact hb
      exact fin s3 hb
    · have e : x.add = false := deed_add.symm.trans (Bool.eq_false_iff.mpr e)
      refine ⟨rfl, _, .inr (SqT.of hat), .str x.f, rfl, _, .inr (SqT.of hat), .int x.n, rfl, _, _, rfl, by omega, g1, g3, g4, fun H3 b s3 nb hb => ?_⟩
      have hb : ChAt K H3 b [x] := by
        have : (⟨x.f, false, x.n⟩ : Rw) = x := by rw [← e]
        rw [← this]
        exact hb
      exact fin s3 hb
  · rintro σ' H2 ⟨a, y, rfl, sm, hA⟩
    rw [List.length_map, hrs.len, List.take_length] at hA
    exact q H2 a sm hA
end
section
variable {P : Program} {w : World} {K : PySem.W.Frag} {mg : Str → Option Value} {base : Heap}
variable {t_BOUND t_DIGITS t_LETTERS t_LONGEST_INTEGER t_LONGEST_NAME : Tok} {a_MARKS a_RESERVED a_SIGNS a_BadName a_BadNumber a_BadText a_Change a_ElseputError a_Reader a_TooLarge : Addr}
theorem strs_of : ∀ {xs : List V} {zs : List Str}, (∀ x ∈ xs, x ∈ zs.map V.str) → ∃ ws : List Str, xs = ws.map V.str ∧ ∀ w ∈ ws, w ∈ zs
  | [], _, _ => ⟨[], rfl, fun _ h => nomatch h⟩
  | x :: r, zs, h => by
    obtain ⟨z, hz, rfl⟩ := List.mem_map.mp (h x List.mem_cons_self)
    obtain ⟨ws, rfl, hw⟩ := strs_of (xs := r) (zs := zs) fun y hy => h y (List.mem_cons_of_mem _ hy)
    exact ⟨z :: ws, rfl, fun w hw' => by
      rcases List.mem_cons.mp hw' with rfl | h'
      · exact hz
      · exact hw w h'⟩
theorem nodup_strs {zs : List Str} (h : zs.Nodup) : (zs.map V.str).Nodup := by
  show List.Pairwise (· ≠ ·) _
  rw [List.pairwise_map]
  exact List.Pairwise.imp (fun h e => h (V.str.inj e)) h
theorem nodup_of_strs {zs : List Str} (h : (zs.map V.str).Nodup) : zs.Nodup := by
  have h : List.Pairwise (· ≠ ·) (zs.map V.str) := h
  rw [List.pairwise_map] at h
  exact List.Pairwise.imp (fun h e => h (congrArg V.str e)) h
def sp__law_some_rows (K : PySem.W.Frag) : Sp := fun vs H Q _ => ∃ (st scr p : Addr) (zs : List Str), vs = [.ref st, .ref p] ∧ DrAt H st scr ∧ H p = some (.lst (zs.map V.str)) ∧ p ≠ st ∧ zs.length ≤ 20 ∧ (∀ z ∈ zs, isName z = true ∧ z.length ≤ 12) ∧ zs.Nodup ∧
  ∀ (H' : Hp) (L : Addr) (rs : List Addr) (xs : List Rw), Bt st H H' → DrAt H' st scr → H L = none → H' L = some (.lst (rs.map V.ref)) → RowsL H' rs xs → Good xs → (∀ x ∈ xs, x.f ∈ zs) → Q (.ref L) H'
theorem len__law_some_rows {vs : List V} {H : Hp} {Q : VK} {E : XK} (h : sp__law_some_rows K vs H Q E) : vs.length = 2 := by
  obtain ⟨_, _, _, _, rfl, _⟩ := h
  rfl
theorem ok__law_some_rows {f : Addr} {fd : FuncData} {f__law_mixed : Addr} {fd__law_mixed : FuncData} {f__law_draw : Addr} {fd__law_draw : FuncData} {f__law_pick : Addr} {fd__law_pick : FuncData} {f__law_constant : Addr} {fd__law_constant : FuncData} (F : Fun K "_law_some_rows" "_law_some_rows" s__law_some_rows f fd) (T : Gs K mg t_BOUND t_DIGITS t_LETTERS t_LONGEST_INTEGER t_LONGEST_NAME a_MARKS a_RESERVED a_SIGNS a_BadName a_BadNumber a_BadText a_Change a_ElseputError a_Reader a_TooLarge) (c__law_mixed : Cal P w K mg base CX0 2 "_law_mixed" f__law_mixed fd__law_mixed ["_law_state_here", "_law_row"] (sp__law_mixed K)) (c__law_draw : Cal P w K mg base CX0 1 "_law_draw" f__law_draw fd__law_draw ["_law_state_here", "_law_many"] (sp__law_draw K)) (c__law_pick : Cal P w K mg base CX0 2 "_law_pick" f__law_pick fd__law_pick ["_law_state_here", "_law_row"] (sp__law_pick K)) (c__law_constant : Cal P w K mg base CX0 3 "_law_constant" f__law_constant fd__law_constant ["_law_state_here"] (sp__law_constant K)) : FnOk P w K mg base CX0 4 f fd ["_law_state_here", "_law_fields"] (sp__law_some_rows K) := by
  refine F.ok sc__law_some_rows (fun vs H Q E h => len__law_some_rows h) (fun cdv A outer s H vs Q E hr h => ?_)
  obtain ⟨st, scr, p, zs, rfl, hd, hp, pst, hzl, hzn, hznd, q⟩ := h
  refine ⟨_, (pss_cons (ps_set (i := 2) sc__law_some_rows.nd rfl (.inl rfl) (pe_lst pa_nil)) (pss_cons (ps_for PassesOwn.never rfl (pi_list (pe_slice (slK K) (pe_call c__law_mixed.G (hr.mono (by first | decide | omega)) rfl c__law_mixed.m c__law_mixed.kp c__law_mixed.b .nil pass0 (pa_cons (v_ 0) (pa_cons (v_ 1) pa_nil))) po_none (po_some (pe_op op_subM pe_int (pe_call c__law_draw.G (hr.mono (by first | decide | omega)) rfl c__law_draw.m c__law_draw.kp c__law_draw.b .nil pass0 (pa_cons (v_ 0) (pa_cons pe_int pa_nil))))))) (pg_name (i := 3) sc__law_some_rows.nd rfl (.inl rfl)) (pss_one (ps_expr (pe_bm PySem.F.plainAttrs_list PySem.F.slot_list_append PySem.F.type_list_append mt_append (v_ 2) (pa_cons (pe_tup (pa_cons (v_ 3) (pa_cons (pe_call c__law_pick.G (hr.mono (by first | decide | omega)) rfl c__law_pick.m c__law_pick.kp c__law_pick.b .nil pass0 (pa_cons (v_ 0) (pa_cons (pe_lst (pa_cons pe_str (pa_cons pe_str pa_nil))) pa_nil))) (pa_cons (pe_call c__law_constant.G (hr.mono (by first | decide | omega)) rfl c__law_constant.m c__law_constant.kp c__law_constant.b .nil pass0 (pa_cons (v_ 0) pa_nil)) pa_nil)))) pa_nil))))) (pss_one (ps_ret (v_ 2))))), ?_⟩
  refine ⟨Nat.zero_le _, fun L nL => ?_⟩
  have Ls : L ≠ st := hd.ne_new nL
  have Lc : L ≠ scr := hd.ne_scr nL
  have hd1 := hd.new (same_new (o := .lst []) nL)
  refine ⟨st, scr, p, _, rfl, hd1, same_new nL _ _ hp, pst, by rw [List.length_map]; omega, fun H2 r ys b2 hd2 nr hr hperm => ?_⟩
  have hL2 := b2 _ _ Ls (upd_same (H := H) (a := L) (o := .lst []))
  have b02 : Bt st H H2 := (Bt.same (same_new nL)).trans b2
  obtain ⟨ws, rfl, hws⟩ := strs_of (xs := ys) (zs := zs) fun x hx => hperm.mem_iff.mp hx
  have hwl : ws.length = zs.length := by
    have := hperm.length_eq
    rwa [List.length_map, List.length_map] at this
  have hwnd : ws.Nodup := nodup_of_strs (hperm.nodup_iff.mpr (nodup_strs hznd))
  refine ⟨st, scr, _, rfl, hd2, by decide, many_small (by decide) (by decide), fun k l k0 k1 hd3 => ?_⟩
  have rst : r ≠ st := hd1.ne_new nr
  have rL : r ≠ L := (ne_of_none (upd_same (H := H) (a := L) (o := .lst [])) nr).symm
  have b03 := b02.trans (Bt.st (st := st) (o := .lst l))
  have hr3 : upd H2 st (.lst l) r = some (.lst (ws.map V.str)) := by rw [upd_ne rst]; exact hr
  have hL3 : upd H2 st (.lst l) L = some (.lst []) := by rw [upd_ne Ls]; exact hL2
  generalize upd H2 st (.lst l) = H3 at hd3 b03 hr3 hL3 ⊢
  refine ⟨3 - k, rfl, .inl ⟨_, SqL.of hr3, fun u nu => ?_⟩⟩
  rw [cutV_take _ (by omega), ← List.map_take]
  have us : u ≠ st := hd3.ne_new nu
  have uL : u ≠ L := (ne_of_none hL3 nu).symm
  have hd4 := hd3.new (same_new (o := .lst ((ws.take (3 - k).toNat).map V.str)) nu)
  have b04 := b03.trans (Bt.same (st := st) (same_new (o := .lst ((ws.take (3 - k).toNat).map V.str)) nu))
  have hu4 := upd_same (H := H3) (a := u) (o := .lst ((ws.take (3 - k).toNat).map V.str))
  have hL4 := same_new (o := .lst ((ws.take (3 - k).toNat).map V.str)) nu _ _ hL3
  generalize upd H3 u (.lst ((ws.take (3 - k).toNat).map V.str)) = H4 at hd4 b04 hu4 hL4 ⊢
  have htl : (ws.take (3 - k).toNat).length ≤ 3 := by rw [List.length_take]; omega
  have htn : (ws.take (3 - k).toNat).Nodup := List.Pairwise.sublist (List.take_sublist _ _) hwnd
  have htm : ∀ w ∈ ws.take (3 - k).toNat, w ∈ zs := fun w hw => hws w (List.mem_of_mem_take hw)
  generalize ws.take (3 - k).toNat = ts at hu4 htl htn htm
  refine ⟨u, rfl, ⟨_, SqL.of hu4⟩, ?_⟩
  refine for_list (K := K) (a := u) (xs := ts.map V.str) (fun i σ' H' => ∃ (y : Option V) (rs : List Addr) (xs : List Rw), σ' = [some (.ref st), some (.ref p), some (.ref L), y] ∧ Bt st H H' ∧ DrAt H' st scr ∧ H' u = some (.lst (ts.map V.str)) ∧ H' L = some (.lst (rs.map V.ref)) ∧ RowsL H' rs xs ∧ xs.map (·.f) = ts.take i ∧ ∀ x ∈ xs, Bd x.n) ⟨_, [], [], rfl, b04, hd4, hu4, hL4, trivial, rfl, fun _ h => nomatch h⟩ (fun i σ' H' _ ⟨_, _, _, _, _, _, h, _⟩ => SqL.of h) ?_ ?_
  · rintro i v σ' H' hi ⟨y, rs, xs, rfl, bt, hdd, hu, hL, hrs, hfs, hbd⟩
    rw [List.getElem?_map] at hi
    obtain ⟨z, hz, rfl⟩ := Option.map_eq_some_iff.mp hi
    refine ⟨.inl ⟨rfl, _, SqL.of hL⟩, ?_⟩
    refine ⟨(by show 2 ≤ sizeLine; decide), fun t1 n1 => ?_⟩
    have hd5 := hdd.new (same_new (o := .lst [.str "add", .str "set"]) n1)
    refine ⟨st, scr, _, rfl, hd5, .inr ⟨t1, _, rfl, upd_same, hdd.ne_new n1, by decide, by decide, fun dv l hdv hd6 => ?_⟩⟩
    obtain ⟨ad, rfl⟩ : ∃ ad : Bool, dv = .str (deed ad) := by
      simp only [List.mem_cons, List.not_mem_nil, or_false] at hdv
      rcases hdv with rfl | rfl
      · exact ⟨true, rfl⟩
      · exact ⟨false, rfl⟩
    refine ⟨st, scr, rfl, hd6, fun l2 m hm hd7 => ?_⟩
    refine ⟨(by show 3 ≤ sizeLine; decide), fun t2 n2 => ?_⟩
    have keep : ∀ b o, b ≠ st → H' b = some o → (upd (upd (upd (upd H' t1 (.lst [.str "add", .str "set"])) st (.lst l)) st (.lst l2)) t2 (.tup [.str z, .str (deed ad), .int m])) b = some o := fun b o nb hb =>
      same_new n2 _ _ (by rw [upd_ne nb, upd_ne nb]; exact same_new n1 _ _ hb)
    have ht2 := upd_same (H := upd (upd (upd H' t1 (.lst [.str "add", .str "set"])) st (.lst l)) st (.lst l2)) (a := t2) (o := .tup [.str z, .str (deed ad), .int m])
    have hd8 := hd7.new (same_new (o := .tup [.str z, .str (deed ad), .int m]) n2)
    generalize upd (upd (upd (upd H' t1 (.lst [.str "add", .str "set"])) st (.lst l)) st (.lst l2)) t2 (.tup [.str z, .str (deed ad), .int m]) = H5 at keep ht2 hd8 ⊢
    have hL5 := keep _ _ Ls hL
    have hxl : xs.length ≤ 3 := by
      have := congrArg List.length hfs
      rw [List.length_map, List.length_take] at this
      omega
    have hrl : rs.length ≤ 3 := by rw [hrs.len]; exact hxl
    refine ⟨L, _, _, rfl, rfl, hL5, line_lt (by rw [List.length_map]; omega), ?_⟩
    have keep2 : ∀ b o, b ≠ st → b ≠ L → H' b = some o → (upd H5 L (.lst (rs.map V.ref ++ [.ref t2]))) b = some o := fun b o nb nl hb => by rw [upd_ne nl]; exact keep _ _ nb hb
    have kt : ∀ c z, H' c = some (.tup z) → (upd H5 L (.lst (rs.map V.ref ++ [.ref t2]))) c = some (.tup z) := fun c z hc => by
      refine keep2 _ _ ?_ (ne_of hc hL (by intro e; cases e)) hc
      obtain ⟨l, hl⟩ := hdd.lst
      exact ne_of hc hl (by intro e; cases e)
    have t2L : t2 ≠ L := by
      intro e
      rw [e, hL5] at ht2
      cases ht2
    refine ⟨_, rs ++ [t2], xs ++ [⟨z, ad, m⟩], rfl, ?_, hd8.at Ls Lc, keep2 _ _ us uL hu, by rw [upd_same, List.map_append]; rfl, (hrs.keep kt).app ⟨by show _ = _; rw [upd_ne t2L]; exact ht2, trivial⟩, ?_, ?_⟩
    · intro b o nb hb
      rw [upd_ne (ne_of_none hb nL)]
      exact keep _ _ nb (bt _ _ nb hb)
    · rw [List.map_append, hfs, take_snoc hz]
      rfl
    · intro x hx
      rcases List.mem_append.mp hx with h | h
      · exact hbd x h
      · rw [List.mem_singleton.mp h]
        exact hm
  · rintro σ' H' ⟨y, rs, xs, rfl, bt, hdd, hu, hL, hrs, hfs, hbd⟩
    rw [List.length_map, List.take_length] at hfs
    refine q H' L rs xs bt hdd nL hL hrs ⟨fun x hx => ?_, by rw [hfs]; exact htn, ?_⟩ fun x hx => ?_
    · have : x.f ∈ ts := by rw [← hfs]; exact List.mem_map_of_mem hx
      exact ⟨(hzn _ (htm _ this)).1, (hzn _ (htm _ this)).2, hbd x hx⟩
    · have := congrArg List.length hfs
      rw [List.length_map] at this
      omega
    · have : x.f ∈ ts := by rw [← hfs]; exact List.mem_map_of_mem hx
      exact htm _ this
end
section
variable {P : Program} {w : World} {K : PySem.W.Frag} {mg : Str → Option Value} {base : Heap}
variable {t_BOUND t_DIGITS t_LETTERS t_LONGEST_INTEGER t_LONGEST_NAME : Tok} {a_MARKS a_RESERVED a_SIGNS a_BadName a_BadNumber a_BadText a_Change a_ElseputError a_Reader a_TooLarge : Addr}
def scanR (x : Rw) (acc : Rw) (ys : List Rw) : Rw := ys.foldl (fun acc y => if y.f = x.f then (if y.add = false then ⟨x.f, false, y.n⟩ else ⟨x.f, x.add, x.n + y.n⟩) else acc) acc
theorem scan_none {x : Rw} : ∀ {ys : List Rw} {acc : Rw}, x.f ∉ ys.map (·.f) → scanR x acc ys = acc
  | [], _, _ => rfl
  | y :: r, acc, h => by
    rw [List.map_cons, List.mem_cons, not_or] at h
    unfold scanR
    rw [List.foldl_cons, if_neg (fun e => h.1 e.symm)]
    exact scan_none (acc := acc) h.2
theorem scan_eq {x : Rw} : ∀ {ys : List Rw}, (ys.map (·.f)).Nodup → scanR x x ys = followedR x ys
  | [], _ => rfl
  | y :: r, h => by
    rw [List.map_cons, List.nodup_cons] at h
    unfold scanR followedR
    rw [List.foldl_cons]
    by_cases e : y.f = x.f
    · rw [if_pos e, if_pos e]
      exact scan_none (by rw [← e]; exact h.1)
    · rw [if_neg e, if_neg e]
      exact scan_eq h.2
theorem scan_snoc {x acc y : Rw} {ys : List Rw} : scanR x acc (ys ++ [y]) = if y.f = x.f then (if y.add = false then ⟨x.f, false, y.n⟩ else ⟨x.f, x.add, x.n + y.n⟩) else scanR x acc ys := by
  unfold scanR
  rw [List.foldl_append]
  rfl
def sp__law_chained (K : PySem.W.Frag) : Sp := fun vs H Q _ => ∃ (p u : Addr) (rs us : List Addr) (xs ys : List Rw), vs = [.ref p, .ref u] ∧ H p = some (.lst (rs.map V.ref)) ∧ H u = some (.lst (us.map V.ref)) ∧ RowsL H rs xs ∧ RowsL H us ys ∧ xs.length ≤ 3 ∧ (ys.map (·.f)).Nodup ∧ ys.length ≤ 3 ∧
  ∀ (H' : Hp) (L : Addr) (ts : List Addr), Same H H' → H L = none → H' L = some (.lst (ts.map V.ref)) → RowsL H' ts (joinedR xs ys) → Q (.ref L) H'
theorem len__law_chained {vs : List V} {H : Hp} {Q : VK} {E : XK} (h : sp__law_chained K vs H Q E) : vs.length = 2 := by
  obtain ⟨_, _, _, _, _, _, rfl, _⟩ := h
  rfl
theorem ok__law_chained {f : Addr} {fd : FuncData} (F : Fun K "_law_chained" "_law_chained" s__law_chained f fd) (T : Gs K mg t_BOUND t_DIGITS t_LETTERS t_LONGEST_INTEGER t_LONGEST_NAME a_MARKS a_RESERVED a_SIGNS a_BadName a_BadNumber a_BadText a_Change a_ElseputError a_Reader a_TooLarge) : FnOk P w K mg base CX0 1 f fd ["_law_first", "_law_second"] (sp__law_chained K) := by
  refine F.ok sc__law_chained (fun vs H Q E h => len__law_chained h) (fun cdv A outer s H vs Q E hr h => ?_)
  obtain ⟨p, u, rs, us, xs, ys, rfl, hp, hu, hrs, hus, lx, gy, ly, q⟩ := h
  refine ⟨_, (pss_cons (ps_set (i := 2) sc__law_chained.nd rfl (.inl rfl) (pe_lst pa_nil)) (pss_cons (ps_for PassesOwn.never rfl (pi_list (v_ 0)) (pg_name (i := 3) sc__law_chained.nd rfl (.inl rfl)) (pss_cons (ps_set (i := 5) sc__law_chained.nd rfl (.inl rfl) (v_ 3)) (pss_cons (ps_for PassesOwn.never rfl (pi_list (v_ 1)) (pg_name (i := 6) sc__law_chained.nd rfl (.inl rfl)) (pss_one (ps_if (PW.pt (pw_and (pt_c (eqK K hr.units) (e_x K (v_ 6) pe_int) (e_x K (v_ 3) pe_int)) (pw_and1 (pt_c (eqK K hr.units) (e_x K (v_ 6) pe_int) pe_str)))) (pss_one (ps_set (i := 5) sc__law_chained.nd rfl (.inl rfl) (v_ 6))) (pss_one (ps_if (pt_c (eqK K hr.units) (e_x K (v_ 6) pe_int) (e_x K (v_ 3) pe_int)) (pss_one (ps_set (i := 5) sc__law_chained.nd rfl (.inl rfl) (pe_tup (pa_cons (e_x K (v_ 3) pe_int) (pa_cons (e_x K (v_ 3) pe_int) (pa_cons (pe_op (addK K) (e_x K (v_ 3) pe_int) (e_x K (v_ 6) pe_int)) pa_nil)))))) pss_nil))))) (pss_one (ps_expr (pe_bm PySem.F.plainAttrs_list PySem.F.slot_list_append PySem.F.type_list_append mt_append (v_ 2) (pa_cons (v_ 5) pa_nil))))))) (pss_cons (ps_set (i := 4) sc__law_chained.nd rfl (.inr rfl) (pe_lc (own := [("_law_row", 3)]) (g := gName 3) (by rfl) sc__law_chained.nd (pi_list (v_ 0)) (blkOk_by (N := ["_law_first", "_law_second", "_law_result", "_law_row", "_law_names_here", "_law_joined", "_law_other"]) (sc := defScope s__law_chained) (by decide +kernel)) (fun _ _ _ _ _ => pg_name (i := 3) sc__law_chained.nd rfl (Or.inl rfl)) (fun _ _ _ _ _ => pts_nil) (fun _ _ _ _ _ => (e_x K (v_ 3) pe_int)))) (pss_one (ps_ret (pe_op (addK K) (v_ 2) (pe_lc (own := [("_law_other", 6)]) (g := gName 6) (by rfl) sc__law_chained.nd (pi_list (v_ 1)) (blkOk_by (N := ["_law_first", "_law_second", "_law_result", "_law_row", "_law_names_here", "_law_joined", "_law_other"]) (sc := defScope s__law_chained) (by decide +kernel)) (fun _ _ _ _ _ => pg_name (i := 6) sc__law_chained.nd rfl (Or.inl rfl)) (fun _ _ _ _ _ => pts_one (pt_c (notInK K) (e_x K (v_ 6) pe_int) (v_ 4))) (fun _ _ _ _ _ => (v_ 6))))))))), ?_⟩
  refine ⟨Nat.zero_le _, fun L nL => ?_⟩
  have sL := same_new (o := .lst []) nL
  refine ⟨p, rfl, ⟨_, SqL.of (sL _ _ hp)⟩, ?_⟩
  refine for_list (K := K) (a := p) (xs := rs.map V.ref) (fun i σ' H' => ∃ (y z w : Option V) (ts : List Addr), σ' = [some (.ref p), some (.ref u), some (.ref L), y, none, z, w] ∧ Same H H' ∧ H' L = some (.lst (ts.map V.ref)) ∧ RowsL H' ts ((xs.take i).map (fun x => followedR x ys))) ⟨_, _, _, [], rfl, sL, upd_same, trivial⟩ (fun i σ' H' _ ⟨_, _, _, _, _, h, _⟩ => SqL.of (h _ _ hp)) ?_ ?_
  · rintro i v σ' H' hi ⟨y, z, w, ts, rfl, sm, hL, hts⟩
    rw [List.getElem?_map] at hi
    obtain ⟨r, hr, rfl⟩ := Option.map_eq_some_iff.mp hi
    obtain ⟨x, hx, hax⟩ := hrs.get hr
    refine ⟨u, rfl, ⟨_, SqL.of (sm _ _ hu)⟩, ?_⟩
    refine for_list (K := K) (a := u) (xs := us.map V.ref) (fun k σ2 H2 => ∃ (j : Addr) (w : Option V), σ2 = [some (.ref p), some (.ref u), some (.ref L), some (.ref r), none, some (.ref j), w] ∧ Same H' H2 ∧ RowAt H2 j (scanR x x (ys.take k))) ⟨r, _, rfl, Same.refl _, sm _ _ hax⟩ (fun k σ2 H2 _ ⟨_, _, _, h, _⟩ => SqL.of (h _ _ (sm _ _ hu))) ?_ ?_
    · rintro k v σ2 H2 hk ⟨j, w, rfl, s2, hj⟩
      rw [List.getElem?_map] at hk
      obtain ⟨o, ho, rfl⟩ := Option.map_eq_some_iff.mp hk
      obtain ⟨y2, hy2, hao⟩ := hus.get ho
      have hao2 := s2 _ _ (sm _ _ hao)
      have hax2 := s2 _ _ (sm _ _ hax)
      have hsc : scanR x x (ys.take (k + 1)) = if y2.f = x.f then (if y2.add = false then ⟨x.f, false, y2.n⟩ else ⟨x.f, x.add, x.n + y2.n⟩) else scanR x x (ys.take k) := by rw [take_snoc hy2, scan_snoc]
      refine ⟨_, .inr (SqT.of hao2), .str y2.f, rfl, _, .inr (SqT.of hax2), .str x.f, rfl, ?_⟩
      refine ite2 (fun e => ?_) (fun e => ?_)
      · have e : y2.f = x.f := of_decide_eq_true e
        refine ⟨_, .inr (SqT.of hao2), .str (deed y2.add), rfl, ?_⟩
        refine ite2 (fun e2 => ?_) (fun e2 => ?_)
        · have e2 : y2.add = false := by simpa using deed_set.symm.trans e2
          refine ⟨o, _, rfl, s2, ?_⟩
          rw [hsc, if_pos e, if_pos e2, ← e, ← e2]
          exact hao2
        · have e2 : y2.add = true := by
            have := deed_set.symm.trans (Bool.eq_false_iff.mpr e2)
            simpa using this
          refine ⟨_, .inr (SqT.of hao2), .str y2.f, rfl, _, .inr (SqT.of hax2), .str x.f, rfl, ?_⟩
          refine ite2 (fun e3 => ?_) (fun e3 => absurd (decide_eq_true e) e3)
          refine ⟨_, .inr (SqT.of hax2), .str x.f, rfl, _, .inr (SqT.of hax2), .str (deed x.add), rfl, _, .inr (SqT.of hax2), .int x.n, rfl, _, .inr (SqT.of hao2), .int y2.n, rfl, (by show 3 ≤ sizeLine; decide), fun t nt => ?_⟩
          refine ⟨t, _, rfl, s2.trans (same_new nt), ?_⟩
          rw [hsc, if_pos e, if_neg (by rw [e2]; decide)]
          exact upd_same
      · have e : ¬ y2.f = x.f := of_decide_eq_false (Bool.eq_false_iff.mpr e)
        refine ite2 (fun e3 => nomatch e3) (fun _ => ?_)
        refine ⟨_, .inr (SqT.of hao2), .str y2.f, rfl, _, .inr (SqT.of hax2), .str x.f, rfl, ?_⟩
        refine ite2 (fun e3 => absurd (of_decide_eq_true e3) e) (fun _ => ?_)
        refine ⟨j, _, rfl, s2, ?_⟩
        rw [hsc, if_neg e]
        exact hj
    · rintro σ2 H2 ⟨j, w, rfl, s2, hj⟩
      rw [List.length_map, hus.len, List.take_length, scan_eq gy] at hj
      have hL2 := s2 _ _ hL
      have tl : ts.length ≤ 3 := by
        rw [hts.len, List.length_map, List.length_take]
        omega
      refine ⟨.inl ⟨rfl, _, SqL.of hL2⟩, L, _, _, rfl, rfl, hL2, line_lt (by rw [List.length_map]; omega), ?_⟩
      have kt : ∀ c z, H2 c = some (.tup z) → (upd H2 L (.lst (ts.map V.ref ++ [.ref j]))) c = some (.tup z) := fun c z hc => by
        rw [upd_ne (ne_of hc hL2 (by intro e; cases e))]
        exact hc
      refine ⟨_, _, _, ts ++ [j], rfl, fun b o hb => ?_, by rw [upd_same, List.map_append]; rfl, ?_⟩
      · rw [upd_ne (ne_of_none hb nL)]
        exact s2 _ _ (sm _ _ hb)
      · rw [take_snoc hx, List.map_append]
        exact ((hts.same s2).keep kt).app ⟨kt _ _ hj, trivial⟩
  · rintro σ' H' ⟨y, z, w, ts, rfl, sm, hL, hts⟩
    rw [List.length_map, hrs.len, List.take_length] at hts
    have tl : ts.length ≤ 3 := by
      rw [hts.len, List.length_map]
      exact lx
    refine ⟨p, rfl, ⟨_, SqL.of (sm _ _ hp)⟩, fun D nD => ?_⟩
    refine lc_it walk_list (fun i H2 => Same H' H2 ∧ H2 D = some (.lst (((xs.take i).map (·.f)).map V.str))) ⟨same_new nD, upd_same⟩ (fun _ _ _ h => SqL.of (h.1 _ _ (sm _ _ hp))) ?_ ?_
    · rintro i v H1 H2 hi ⟨s1, hD⟩ ⟨rfl, hv⟩
      rw [List.length_map] at hi
      obtain ⟨r, er⟩ : ∃ r, rs[i]? = some r := ⟨_, List.getElem?_eq_getElem hi⟩
      have hv : (rs.map V.ref)[i]? = some v := by
        first | exact hv | exact hv _ (SqL.of (s1 _ _ (sm _ _ hp)))
      rw [List.getElem?_map, er] at hv
      cases hv
      obtain ⟨x, ex, hx⟩ := hrs.get er
      refine ⟨rfl, ?_⟩
      refine ⟨_, .inr (SqT.of (s1 _ _ (sm _ _ hx))), .str x.f, rfl, _, hD, line_lt (by rw [List.length_map, List.length_map, List.length_take]; omega), ?_, ?_⟩
      · intro b o hb
        rw [upd_ne (ne_of_none hb nD)]
        exact s1 _ _ hb
      · rw [upd_same, take_snoc ex, List.map_append, List.map_append]
        rfl
    rintro H1 ⟨s1, hD⟩
    rw [List.length_map, hrs.len, List.take_length] at hD
    have s01 := sm.trans s1
    refine ⟨u, rfl, ⟨_, SqL.of (s01 _ _ hu)⟩, fun D2 nD2 => ?_⟩
    refine lc_it walk_list (fun i H2 => Same H1 H2 ∧ ∃ ts2 : List Addr, H2 D2 = some (.lst (ts2.map V.ref)) ∧ RowsL H2 ts2 ((ys.take i).filter (fun y => !decide (y.f ∈ xs.map (·.f))))) ⟨same_new nD2, [], upd_same, trivial⟩ (fun _ _ _ h => SqL.of (h.1 _ _ (s01 _ _ hu))) ?_ ?_
    · rintro i v H2' H2 hi ⟨sm2, ts2, hD2, hts2⟩ ⟨rfl, hv⟩
      rw [List.length_map] at hi
      obtain ⟨r, er⟩ : ∃ r, us[i]? = some r := ⟨_, List.getElem?_eq_getElem hi⟩
      have hv : (us.map V.ref)[i]? = some v := by
        first | exact hv | exact hv _ (SqL.of (sm2 _ _ (s01 _ _ hu)))
      rw [List.getElem?_map, er] at hv
      cases hv
      obtain ⟨y, ey, hy⟩ := hus.get er
      refine ⟨rfl, ?_⟩
      refine ⟨_, .inr (SqT.of (sm2 _ _ (s01 _ _ hy))), .str y.f, rfl, _, .inl (SqL.of (sm2 _ _ hD)), rfl, flat_strs, ?_⟩
      have hf : (ys.take (i + 1)).filter (fun y => !decide (y.f ∈ xs.map (·.f))) = (ys.take i).filter (fun y => !decide (y.f ∈ xs.map (·.f))) ++ (if (!decide (y.f ∈ xs.map (·.f))) = true then [y] else []) := by
        rw [take_snoc ey, List.filter_append, List.filter_cons, List.filter_nil]
      refine ite2 (fun e => ?_) (fun e => ?_)
      · have e : (!decide (y.f ∈ xs.map (·.f))) = true := by rw [← inV_str]; exact e
        have tl2 : ts2.length ≤ 10 := by
          rw [hts2.len]
          have := List.length_filter_le (fun y : Rw => !decide (y.f ∈ xs.map (·.f))) (ys.take i)
          rw [List.length_take] at this
          omega
        have keep : ∀ c z, H2 c = some (.tup z) → (upd H2 D2 (.lst (ts2.map V.ref ++ [.ref r]))) c = some (.tup z) := fun c z hc => by
          rw [upd_ne (ne_of hc hD2 (by intro e; cases e))]
          exact hc
        refine ⟨_, hD2, line_lt (by rw [List.length_map]; omega), ?_, ts2 ++ [r], by rw [upd_same, List.map_append]; rfl, ?_⟩
        · intro c o hc
          rw [upd_ne (ne_of_none hc nD2)]
          exact sm2 _ _ hc
        · rw [hf, if_pos e]
          exact (hts2.keep keep).app ⟨keep _ _ (sm2 _ _ (s01 _ _ hy)), trivial⟩
      · have e : ¬ (!decide (y.f ∈ xs.map (·.f))) = true := by rw [← inV_str]; exact e
        refine ⟨sm2, ts2, hD2, ?_⟩
        rw [hf, if_neg e, List.append_nil]
        exact hts2
    · rintro H2 ⟨sm2, ts2, hD2, hts2⟩
      rw [List.length_map, hus.len, List.take_length] at hts2
      have t2 : ts2.length ≤ 3 := by
        rw [hts2.len]
        exact Nat.le_trans (List.length_filter_le _ _) ly
      refine .inl ⟨_, _, sm2 _ _ (s1 _ _ hL), hD2, line_of (by rw [List.length_map, List.length_map]; omega), fun r nr => ?_⟩
      have sf := (s01.trans sm2).trans (same_new (o := .lst (ts.map V.ref ++ ts2.map V.ref)) nr)
      refine q _ r (ts ++ ts2) sf (Same.free (s01.trans sm2) nr) (by rw [upd_same, List.map_append]) ?_
      exact ((hts.same (s1.trans sm2)).app hts2).same (same_new nr)
end
section
variable {P : Program} {w : World} {K : PySem.W.Frag} {mg : Str → Option Value} {base : Heap}
variable {t_BOUND t_DIGITS t_LETTERS t_LONGEST_INTEGER t_LONGEST_NAME : Tok} {a_MARKS a_RESERVED a_SIGNS a_BadName a_BadNumber a_BadText a_Change a_ElseputError a_Reader a_TooLarge : Addr}
theorem letters_cps : letters.cps.toList = El.LT := by decide +kernel
theorem digits_cps : ("0123456789" : Str).cps.toList = DG := by decide +kernel
theorem at_head {z : Str} (h : 0 < z.length) : atI z.cps.toList 0 = some (z.cps.toList.headD 0) := by
  have h2 := len_cps z
  cases e : z.cps.toList with
  | nil => rw [e] at h2; rw [← h2] at h; exact absurd h (by decide)
  | cons a r => exact atI_nat (j := 0) rfl
theorem at_last {z : Str} (h : 0 < z.length) : atI z.cps.toList (-1) = some (z.cps.toList.getLastD 0) := by
  have h2 := len_cps z
  generalize z.cps.toList = xs at h2 ⊢
  have hp : 0 < xs.length := by omega
  unfold atI ixN
  rw [if_neg (by decide), if_pos (by omega)]
  show xs[((-1 : Int) + (xs.length : Int)).toNat]? = _
  rw [show ((-1 : Int) + (xs.length : Int)).toNat = xs.length - 1 by omega, ← List.getLast?_eq_getElem?]
  cases xs with
  | nil => exact absurd hp (by decide)
  | cons a r => rw [List.getLast?_cons, List.getLastD_cons, List.getLastD_eq_getLast?]
theorem inV_strC {z : Str} : ∀ {xs : List Str}, inV (.str z) (xs.map V.str) = decide (z.cps.toList ∈ xs.map (·.cps.toList))
  | [] => rfl
  | a :: r => by
    have ih := inV_strC (z := z) (xs := r)
    unfold inV at ih ⊢
    rw [List.map_cons, List.any_cons, ih, List.map_cons]
    have : eqV (.str a) (.str z) = decide (z.cps.toList = a.cps.toList) := by
      show (a == z) = _
      rw [Bool.eq_iff_iff, beq_iff_eq, decide_eq_true_iff, str_eq, eq_comm]
    rw [this, Bool.eq_iff_iff, Bool.or_eq_true, decide_eq_true_iff, decide_eq_true_iff, decide_eq_true_iff, List.mem_cons]
theorem one_eq {c d : Nat} {s : Str} (h : s.cps.toList = [d]) : ((⟨#[c]⟩ : Str) = s) ↔ c = d := by
  rw [str_eq, h, one_cps]
  simp
/-! ### run_end -/
def runN (f : Nat → Bool) (l : List Nat) : Nat := (l.takeWhile f).length
theorem runN_le (f : Nat → Bool) (l : List Nat) : runN f l ≤ l.length := (List.takeWhile_sublist f).length_le
def sp_run_end (K : PySem.W.Frag) : Sp := fun vs H Q _ => ∃ (z cs : Str) (a : Nat), vs = [.str z, .int a, .str cs] ∧ a ≤ z.length ∧ z.length ≤ 20000 ∧ Q (.int ((a + runN (fun c => decide (c ∈ cs.cps.toList)) (z.cps.toList.drop a) : Nat) : Int)) H
theorem len_run_end {vs : List V} {H : Hp} {Q : VK} {E : XK} (h : sp_run_end K vs H Q E) : vs.length = 3 := by
  obtain ⟨_, _, _, rfl, _⟩ := h
  rfl
theorem drop_cons {z : Str} {e : Nat} (h : e < z.length) : ∃ c, z.cps.toList[e]? = some c ∧ z.cps.toList.drop e = c :: z.cps.toList.drop (e + 1) := by
  have hl : e < z.cps.toList.length := by rw [len_cps]; exact h
  exact ⟨_, List.getElem?_eq_getElem hl, List.drop_eq_getElem_cons hl⟩
theorem ok_run_end {f : Addr} {fd : FuncData} (F : Fun K "run_end" "run_end" s_run_end f fd) (T : Gs K mg t_BOUND t_DIGITS t_LETTERS t_LONGEST_INTEGER t_LONGEST_NAME a_MARKS a_RESERVED a_SIGNS a_BadName a_BadNumber a_BadText a_Change a_ElseputError a_Reader a_TooLarge) : FnOk P w K mg base CX0 1 f fd ["line", "at", "characters"] (sp_run_end K) := by
  refine F.ok sc_run_end (fun vs H Q E h => len_run_end h) (fun cdv A outer s H vs Q E hr h => ?_)
  obtain ⟨z, cs, a, rfl, ha, hz, q⟩ := h
  refine ⟨_, (pss_cons (ps_set (i := 3) sc_run_end.nd rfl (.inl rfl) (v_ 1)) (pss_cons (ps_while PassesOwn.never (PW.pt (pw_and (pt_c op_ltM (v_ 3) (pe_callB (lenK K) (by rfl) T.z_len PySem.boot_len (pa_cons (v_ 0) pa_nil))) (pw_and1 (pt_c (inK K) (e_x K (v_ 0) (v_ 3)) (v_ 2))))) (pss_one (ps_aug (i := 3) sc_run_end.nd rfl (.inl rfl) pe_int ip_add))) (pss_one (ps_ret (v_ 3))))), ?_⟩
  generalize hf : (fun c => decide (c ∈ cs.cps.toList)) = f at q
  refine ⟨fun m σ' H' => ∃ e : Nat, m = z.length - e ∧ a ≤ e ∧ e ≤ z.length ∧ σ' = [some (.str z), some (.int a), some (.str cs), some (.int e)] ∧ H' = H ∧ a + runN f (z.cps.toList.drop a) = e + runN f (z.cps.toList.drop e), ⟨_, a, rfl, Nat.le_refl _, ha, rfl, rfl, rfl⟩, ?_⟩
  rintro m σ' H' ⟨e, rfl, h1, h2, rfl, rfl, he⟩
  refine ⟨line_of (by omega), ?_⟩
  have stop : runN f (z.cps.toList.drop e) = 0 → Q (.int e) H' := fun h => by
    rw [he, h, Nat.add_zero] at q
    exact q
  refine ite2 (fun e1 => ?_) (fun e1 => ?_)
  · have e1 : (e : Int) < z.length := of_decide_eq_true e1
    obtain ⟨c, hc, hd⟩ := drop_cons (z := z) (e := e) (by omega)
    refine ⟨line_of (by omega), c, atI_nat hc, c, rfl, ?_⟩
    have hfc : decide (c ∈ cs.cps.toList) = f c := by rw [← hf]
    cases hb : f c with
    | true =>
      have : decide (c ∈ cs.cps.toList) = true := hfc.trans hb
      simp only [this, if_true]
      refine ⟨fun σ2 H2 => ∃ m', m' < z.length - e ∧ ∃ e : Nat, m' = z.length - e ∧ a ≤ e ∧ e ≤ z.length ∧ σ2 = [some (.str z), some (.int a), some (.str cs), some (.int e)] ∧ H2 = H' ∧ a + runN f (z.cps.toList.drop a) = e + runN f (z.cps.toList.drop e), fun _ _ h => h, ?_⟩
      refine ⟨_, rfl, _, _, rfl, rfl, _, (by omega : z.length - (e + 1) < z.length - e), e + 1, rfl, by omega, by omega, ?_, rfl, ?_⟩
      · rfl
      · rw [he, hd]
        unfold runN
        rw [List.takeWhile_cons, hb, if_pos rfl, List.length_cons]
        omega
    | false =>
      have : decide (c ∈ cs.cps.toList) = false := hfc.trans hb
      simp only [this, Bool.false_eq_true, if_false]
      refine stop ?_
      rw [hd]
      unfold runN
      rw [List.takeWhile_cons, hb]
      rfl
  · have e1 : ¬ (e : Int) < z.length := of_decide_eq_false (Bool.eq_false_iff.mpr e1)
    refine stop ?_
    have h3 : (z.cps.toList.drop e).length = 0 := by
      rw [List.length_drop, len_cps]
      omega
    have := runN_le f (z.cps.toList.drop e)
    omega

/-! ### token_end -/
theorem cutS_mid {z : Str} {a b : Nat} (h : a ≤ b) : (cutS z (some (a : Int)) (some (b : Int))).cps.toList = (z.cps.toList.drop a).take (b - a) := by
  unfold cutS
  rw [List.toList_toArray, HT.sIx_nat, HT.sIx_nat]
  by_cases ha : a ≤ z.length
  · rw [Nat.min_eq_left ha, List.take_eq_take_iff, List.length_drop, len_cps]
    omega
  · rw [Nat.min_eq_right (by omega : z.length ≤ a), List.drop_of_length_le (by rw [len_cps]; exact Nat.le_refl _), List.drop_of_length_le (by rw [len_cps]; omega), List.take_nil, List.take_nil]
theorem tokLen_run (c : Nat) (r : List Nat) : tokLen (c :: r) = if isL c then runN isL (c :: r) else if isD c then runN isD (c :: r) else if c = 45 then (if runN isD r = 0 then 0 else 1 + runN isD r) else if inSM ((c :: r).take 2) then ((c :: r).take 2).length else if inSM [c] then 1 else 0 := rfl
theorem isL_fn : (fun c => decide (c ∈ letters.cps.toList)) = isL := funext fun c => by rw [letters_cps]; rfl
theorem isD_fn : (fun c => decide (c ∈ ("0123456789" : Str).cps.toList)) = isD := funext fun c => by rw [digits_cps]; rfl
def sp_token_end (K : PySem.W.Frag) : Sp := fun vs H Q _ => ∃ (z : Str) (a : Nat), vs = [.str z, .int a] ∧ a < z.length ∧ z.length ≤ 20000 ∧ ∀ H', Same H H' → Q (.int ((a + tokLen (z.cps.toList.drop a) : Nat) : Int)) H'
theorem len_token_end {vs : List V} {H : Hp} {Q : VK} {E : XK} (h : sp_token_end K vs H Q E) : vs.length = 2 := by
  obtain ⟨_, _, rfl, _⟩ := h
  rfl
theorem sg_in {z : Str} : inV (.str z) [.str "<", .str "<=", .str "==", .str "!=", .str ">=", .str ">"] = decide (z.cps.toList ∈ SG) := by
  refine (inV_strC (z := z) (xs := ["<", "<=", "==", "!=", ">=", ">"])).trans ?_
  rw [show (["<", "<=", "==", "!=", ">=", ">"] : List Str).map (·.cps.toList) = SG by decide +kernel]
theorem mk_in {z : Str} : inV (.str z) [.str "(", .str ")", .str ",", .str ";", .str ":"] = decide (z.cps.toList ∈ MK) := by
  refine (inV_strC (z := z) (xs := ["(", ")", ",", ";", ":"])).trans ?_
  rw [show (["(", ")", ",", ";", ":"] : List Str).map (·.cps.toList) = MK by decide +kernel]
theorem ok_token_end {f : Addr} {fd : FuncData} {f_run_end : Addr} {fd_run_end : FuncData} (F : Fun K "token_end" "token_end" s_token_end f fd) (T : Gs K mg t_BOUND t_DIGITS t_LETTERS t_LONGEST_INTEGER t_LONGEST_NAME a_MARKS a_RESERVED a_SIGNS a_BadName a_BadNumber a_BadText a_Change a_ElseputError a_Reader a_TooLarge) (c_run_end : Cal P w K mg base CX0 1 "run_end" f_run_end fd_run_end ["line", "at", "characters"] (sp_run_end K)) : FnOk P w K mg base CX0 2 f fd ["line", "at"] (sp_token_end K) := by
  refine F.ok sc_token_end (fun vs H Q E h => len_token_end h) (fun cdv A outer s H vs Q E hr h => ?_)
  obtain ⟨z, a, rfl, ha, hz, q⟩ := h
  refine ⟨_, (pss_cons (ps_if (pt_c (inK K) (e_x K (v_ 0) (v_ 1)) (pe_glob (v := .str "abcdefghijklmnopqrstuvwxyz") rfl T.g_LETTERS ⟨_, rfl⟩)) (pss_one (ps_ret (pe_call c_run_end.G (hr.mono (by first | decide | omega)) rfl c_run_end.m c_run_end.kp c_run_end.b .nil pass0 (pa_cons (v_ 0) (pa_cons (v_ 1) (pa_cons (pe_glob (v := .str "abcdefghijklmnopqrstuvwxyz") rfl T.g_LETTERS ⟨_, rfl⟩) pa_nil)))))) pss_nil) (pss_cons (ps_if (pt_c (inK K) (e_x K (v_ 0) (v_ 1)) (pe_glob (v := .str "0123456789") rfl T.g_DIGITS ⟨_, rfl⟩)) (pss_one (ps_ret (pe_call c_run_end.G (hr.mono (by first | decide | omega)) rfl c_run_end.m c_run_end.kp c_run_end.b .nil pass0 (pa_cons (v_ 0) (pa_cons (v_ 1) (pa_cons (pe_glob (v := .str "0123456789") rfl T.g_DIGITS ⟨_, rfl⟩) pa_nil)))))) pss_nil) (pss_cons (ps_if (pt_c (eqK K hr.units) (e_x K (v_ 0) (v_ 1)) pe_str) (pss_cons (ps_set (i := 3) sc_token_end.nd rfl (.inl rfl) (pe_call c_run_end.G (hr.mono (by first | decide | omega)) rfl c_run_end.m c_run_end.kp c_run_end.b .nil pass0 (pa_cons (v_ 0) (pa_cons (pe_op (addK K) (v_ 1) pe_int) (pa_cons (pe_glob (v := .str "0123456789") rfl T.g_DIGITS ⟨_, rfl⟩) pa_nil))))) (pss_one (ps_ret (pe_ifExp (pt_c op_gtM (v_ 3) (pe_op (addK K) (v_ 1) pe_int)) (v_ 3) (v_ 1))))) pss_nil) (pss_cons (ps_for PassesOwn.never rfl (pi_tup (pe_tup (pa_cons (pe_slice (slK K) (v_ 0) (po_some (v_ 1)) (po_some (pe_op (addK K) (v_ 1) pe_int))) (pa_cons (e_x K (v_ 0) (v_ 1)) pa_nil)))) (pg_name (i := 2) sc_token_end.nd rfl (.inl rfl)) (pss_one (ps_if (PW.pt (pw_or (pt_c (inK K) (v_ 2) (pe_glob (v := .ref a_SIGNS) rfl T.g_SIGNS rfl)) (pw_or1 (pt_c (inK K) (v_ 2) (pe_glob (v := .ref a_MARKS) rfl T.g_MARKS rfl))))) (pss_one (ps_ret (pe_op (addK K) (v_ 1) (pe_callB (lenK K) (by rfl) T.z_len PySem.boot_len (pa_cons (v_ 2) pa_nil))))) pss_nil))) (pss_one (ps_ret (v_ 1))))))), ?_⟩
  obtain ⟨c, hc, hd⟩ := drop_cons (z := z) (e := a) (by omega)
  have hl : z.length ≤ sizeLine := line_of (by omega)
  have bf : ∀ {c : Bool}, ¬ c = true → c = false := fun h => Bool.eq_false_iff.mpr h
  have mL : decide (c ∈ letters.cps.toList) = isL c := congrFun isL_fn c
  have mD : decide (c ∈ ("0123456789" : Str).cps.toList) = isD c := congrFun isD_fn c
  have m45 : decide ((⟨#[c]⟩ : Str) = "-") = decide (c = 45) := by
    rw [Bool.eq_iff_iff, decide_eq_true_iff, decide_eq_true_iff, one_eq (d := 45) rfl]
  have q1 : ∀ {n : Nat} {H' : Hp}, Same H H' → tokLen (z.cps.toList.drop a) = n → Q (.int ((a + n : Nat) : Int)) H' := fun s e => e ▸ q _ s
  rw [hd, tokLen_run] at q1
  refine ⟨hl, c, atI_nat hc, c, rfl, ?_⟩
  refine ite2 (fun e1 => ?_) (fun e1 => ?_)
  · have e1 : isL c = true := mL.symm.trans e1
    refine ⟨z, _, a, rfl, by omega, hz, ?_⟩
    have := q1 (Same.refl H) (if_pos e1)
    rw [← hd] at this
    have e : (fun c => decide (c ∈ letters.cps.toList)) = isL := isL_fn
    rw [e]
    exact this
  have e1 : isL c = false := mL.symm.trans (bf e1)
  refine ⟨hl, c, atI_nat hc, c, rfl, ?_⟩
  refine ite2 (fun e2 => ?_) (fun e2 => ?_)
  · have e2 : isD c = true := mD.symm.trans e2
    refine ⟨z, _, a, rfl, by omega, hz, ?_⟩
    have := q1 (Same.refl H) ((if_neg (by rw [e1]; decide)).trans (if_pos e2))
    rw [← hd] at this
    have e : (fun c => decide (c ∈ ("0123456789" : Str).cps.toList)) = isD := isD_fn
    rw [e]
    exact this
  have e2 : isD c = false := mD.symm.trans (bf e2)
  have q2 : ∀ {n : Nat} {H' : Hp}, Same H H' → (if c = 45 then (if runN isD (z.cps.toList.drop (a + 1)) = 0 then 0 else 1 + runN isD (z.cps.toList.drop (a + 1))) else if inSM ((c :: z.cps.toList.drop (a + 1)).take 2) then ((c :: z.cps.toList.drop (a + 1)).take 2).length else if inSM [c] then 1 else 0) = n → Q (.int ((a + n : Nat) : Int)) H' := fun s e =>
    q1 s (((if_neg (by rw [e1]; decide)).trans (if_neg (by rw [e2]; decide))).trans e)
  refine ⟨hl, c, atI_nat hc, ?_⟩
  refine ite2 (fun e3 => ?_) (fun e3 => ?_)
  · have e3 : c = 45 := of_decide_eq_true (m45.symm.trans e3)
    refine ⟨z, _, a + 1, rfl, by omega, hz, ?_⟩
    have e : (fun c => decide (c ∈ ("0123456789" : Str).cps.toList)) = isD := isD_fn
    rw [e]
    generalize hk : runN isD (z.cps.toList.drop (a + 1)) = k at q2 ⊢
    have q2' := fun {n : Nat} (h : (if k = 0 then 0 else 1 + k) = n) => q2 (Same.refl H) ((if_pos e3).trans h)
    refine ite2 (fun e4 => ?_) (fun e4 => ?_)
    · have e4 : (a : Int) + 1 < ((a + 1 + k : Nat) : Int) := of_decide_eq_true e4
      have := q2' (if_neg (by omega))
      rw [← Nat.add_assoc] at this
      exact this
    · have e4 : ¬ (a : Int) + 1 < ((a + 1 + k : Nat) : Int) := of_decide_eq_false (bf e4)
      exact q2' (if_pos (by omega))
  have e3 : ¬ c = 45 := of_decide_eq_false (m45.symm.trans (bf e3))
  have q3 : ∀ {n : Nat} {H' : Hp}, Same H H' → (if inSM ((c :: z.cps.toList.drop (a + 1)).take 2) then ((c :: z.cps.toList.drop (a + 1)).take 2).length else if inSM [c] then 1 else 0) = n → Q (.int ((a + n : Nat) : Int)) H' := fun s e => q2 s ((if_neg e3).trans e)
  have hcut : (cutS z (some (a : Int)) (some ((a : Int) + 2))).cps.toList = (c :: z.cps.toList.drop (a + 1)).take 2 := by
    have := cutS_mid (z := z) (a := a) (b := a + 2) (by omega)
    rw [hd, show a + 2 - a = 2 by omega] at this
    exact this
  refine ⟨_, rfl, _, rfl, hl, hl, c, atI_nat hc, (by show 2 ≤ sizeLine; decide), fun t nt => ⟨t, rfl, ⟨_, .inl (.inl upd_same)⟩, ?_⟩⟩
  have hin : ∀ y : Str, inSM y.cps.toList = (inV (.str y) [.str "<", .str "<=", .str "==", .str "!=", .str ">=", .str ">"] || inV (.str y) [.str "(", .str ")", .str ",", .str ";", .str ":"]) := fun y => by
    rw [sg_in, mk_in]
    rfl
  have sm : Same H (upd H t (.tup [.str (cutS z (some (a : Int)) (some ((a : Int) + 2))), .str ⟨#[c]⟩])) := same_new nt
  refine for_tup (K := K) (a := t) (xs := [.str (cutS z (some (a : Int)) (some ((a : Int) + 2))), .str ⟨#[c]⟩]) (fun i σ' H' => H' = upd H t (.tup [.str (cutS z (some (a : Int)) (some ((a : Int) + 2))), .str ⟨#[c]⟩]) ∧ (∃ y w, σ' = [some (.str z), some (.int a), y, w]) ∧
    (1 ≤ i → inSM ((c :: z.cps.toList.drop (a + 1)).take 2) = false) ∧ (2 ≤ i → inSM [c] = false)) ⟨rfl, ⟨_, _, rfl⟩, fun h => absurd h (by decide), fun h => absurd h (by decide)⟩ (fun i σ' H' _ h => by rw [h.1]; exact .inl (.inl upd_same)) ?_ ?_
  · rintro i x σ' H' hi ⟨rfl, ⟨y, w, rfl⟩, g1, g2⟩
    obtain ⟨p, rfl, hp, hlen, hyes, hno⟩ : ∃ p : Str, x = .str p ∧ p.length ≤ 2 ∧ p.length ≤ sizeLine ∧ (inSM p.cps.toList = true → Q (.int ((a : Int) + p.length)) (upd H t (.tup [.str (cutS z (some (a : Int)) (some ((a : Int) + 2))), .str ⟨#[c]⟩]))) ∧
        (inSM p.cps.toList = false → (1 ≤ i + 1 → inSM ((c :: z.cps.toList.drop (a + 1)).take 2) = false) ∧ (2 ≤ i + 1 → inSM [c] = false)) := by
      match i, hi with
      | 0, hi =>
        cases hi
        have l2 : (cutS z (some (a : Int)) (some ((a : Int) + 2))).length = ((c :: z.cps.toList.drop (a + 1)).take 2).length := by rw [← hcut, len_cps]
        have l3 : ((c :: z.cps.toList.drop (a + 1)).take 2).length ≤ 2 := by rw [List.length_take]; omega
        refine ⟨_, rfl, by omega, line_of (by omega), fun h => ?_, fun h => ⟨fun _ => by rw [← hcut]; exact h, fun h2 => absurd h2 (by decide)⟩⟩
        rw [hcut] at h
        have := q3 sm (if_pos h)
        rw [← l2] at this
        exact this
      | 1, hi =>
        cases hi
        refine ⟨_, rfl, (by rw [one_len]; decide), line_of (by rw [one_len]; decide), fun h => ?_, fun h => ⟨fun _ => g1 (by decide), fun _ => h⟩⟩
        exact q3 sm ((if_neg (by rw [g1 (by decide)]; decide)).trans (if_pos h))
      | i + 2, hi => cases hi
    rw [hin] at hyes hno
    refine ⟨_, .inr (T.q_SIGNS _), rfl, rfl, ?_⟩
    refine ite2 (fun e5 => ?_) (fun e5 => ?_)
    · exact ⟨hlen, hyes (by rw [show inV (.str p) [.str "<", .str "<=", .str "==", .str "!=", .str ">=", .str ">"] = true from e5]; rfl)⟩
    refine ⟨_, .inr (T.q_MARKS _), rfl, rfl, ?_⟩
    refine ite2 (fun e6 => ?_) (fun e6 => ?_)
    · exact ⟨hlen, hyes (by rw [show inV (.str p) [.str "(", .str ")", .str ",", .str ";", .str ":"] = true from e6, Bool.or_true])⟩
    have := hno (by rw [show inV (.str p) [.str "<", .str "<=", .str "==", .str "!=", .str ">=", .str ">"] = false from bf e5, show inV (.str p) [.str "(", .str ")", .str ",", .str ";", .str ":"] = false from bf e6]; rfl)
    exact ⟨rfl, ⟨_, _, rfl⟩, this.1, this.2⟩
  · rintro σ' H' ⟨rfl, ⟨y, w, rfl⟩, g1, g2⟩
    have g1' := g1 (by show 1 ≤ 2; decide)
    have g2' := g2 (by show 2 ≤ 2; decide)
    exact q3 sm ((if_neg (by rw [g1']; decide)).trans (if_neg (by rw [g2']; decide)))

/-! ### split_line -/
def PairL (H : Hp) : List Addr → List (List Nat × Nat) → Prop
  | [], [] => True
  | t :: ts, x :: xs => (∃ z : Str, H t = some (.tup [.str z, .int (x.2 : Int)]) ∧ z.cps.toList = x.1) ∧ PairL H ts xs
  | _, _ => False
theorem PairL.same {H H' : Hp} (s : ∀ b o, (∃ z i, o = HO.tup [.str z, .int i]) → H b = some o → H' b = some o) : ∀ {ts : List Addr} {l : List (List Nat × Nat)}, PairL H ts l → PairL H' ts l
  | [], [], _ => trivial
  | t :: ts, x :: xs, ⟨⟨z, h1, h2⟩, h⟩ => ⟨⟨z, s _ _ ⟨_, _, rfl⟩ h1, h2⟩, PairL.same s h⟩
theorem PairL.snoc {H : Hp} {t : Addr} {z : Str} {n : Nat} (e : H t = some (.tup [.str z, .int (n : Int)])) : ∀ {ts : List Addr} {l : List (List Nat × Nat)}, PairL H ts l → PairL H (ts ++ [t]) (l ++ [(z.cps.toList, n)])
  | [], [], _ => ⟨⟨z, e, rfl⟩, trivial⟩
  | _ :: _, _ :: _, ⟨h1, h⟩ => ⟨h1, PairL.snoc e h⟩
theorem PairL.len {H : Hp} : ∀ {ts : List Addr} {l : List (List Nat × Nat)}, PairL H ts l → ts.length = l.length
  | [], [], _ => rfl
  | _ :: _, _ :: _, ⟨_, h⟩ => by rw [List.length_cons, List.length_cons, h.len]
/-- what split_line answers: the pairs, or the column of the strange sign in line num -/
def Splits (K : PySem.W.Frag) (H : Hp) (z : Str) (num : Int) (Q : VK) (E : XK) : Prop := match splitL z.cps.toList 1 with
  | .ok l => ∀ (H' : Hp) (p : Addr) (ts : List Addr), Same H H' → H p = none → H' p = some (.lst (ts.map V.ref)) → PairL H' ts l → Q (.ref p) H'
  | .error c => ∀ (C d : Addr) (H' : Hp), PySem.W.nsIn K mainGlobals "BadText" = some (some (.ref C)) → Same H H' → H d = none → H' d = some (.xd [("column", .int (c : Int)), ("line", .int num)]) → E (.ref C) (some d) H'
def sp_split_line (K : PySem.W.Frag) : Sp := fun vs H Q E => ∃ (z : Str) (num : Int), vs = [.str z, .int num] ∧ z.length ≤ 20000 ∧ 0 ≤ num ∧ num ≤ 100000 ∧ Splits K H z num Q E
theorem len_split_line {vs : List V} {H : Hp} {Q : VK} {E : XK} (h : sp_split_line K vs H Q E) : vs.length = 2 := by
  obtain ⟨_, _, rfl, _⟩ := h
  rfl
end
section
variable {P : Program} {w : World} {K : PySem.W.Frag} {mg : Str → Option Value} {base : Heap}
variable {t_BOUND t_DIGITS t_LETTERS t_LONGEST_INTEGER t_LONGEST_NAME : Tok} {a_MARKS a_RESERVED a_SIGNS a_BadName a_BadNumber a_BadText a_Change a_ElseputError a_Reader a_TooLarge : Addr}
def okx_BadText (ws : List V) : Prop := ∃ l c : Int, ws = [.int l, .int c] ∧ 0 ≤ l ∧ l ≤ 100000 ∧ 0 ≤ c ∧ c ≤ 100000
def fs_BadText (ws : List V) : List (Str × V) := match ws with | [l, c] => [("column", c), ("line", l)] | _ => []
theorem ok_BadText {C f cc cda : Addr} {doc pm ct oc ccl cl : Value} {od cdd cld : Option Addr} {osl ccs csl : Array (Option Value)} {vs0 : Array Value} {file : Str} {tf : Tok} {cdD : ClassData}
    (X : ExK K C f ["line", "column"]) (lk : K.lookup f = some ⟨oc, od, .func (PySem.W.fnX "__init__" "BadText.__init__" (defArgs s_BadText) (defBody s_BadText) (defScope s_BadText) [("__class__", cc)] .none .none doc pm none (.ref cda) ct), osl⟩)
    (hcd : PySem.W.codeIn K (.ref cda) "BadText.__init__" = true) (hcode : K.lookup cda = some ⟨ccl, cdd, .fields vs0, ccs⟩) (hvs : vs0[2]? = some (.str file tf)) (hfile : ((P.main.file : Str) == file) = true)
    (hcell : K.lookup cc = some ⟨cl, cld, .cell (some (.ref C)), csl⟩) (hD : PySem.W.clsIn K C = some cdD) (hsuper : mg "super" = none) (hop : PySem.W.nsIn K PySem.cStatics "thirdparty.any" = some none) (htop : (P.main.scope.names.lookup ("super" : Str)).isSome = false) :
    FnOk P w K mg base CX0 1 f (PySem.W.fnX "__init__" "BadText.__init__" (defArgs s_BadText) (defBody s_BadText) (defScope s_BadText) [("__class__", cc)] .none .none doc pm none (.ref cda) ct) ["self", "line", "column"] (spE C okx_BadText fs_BadText) := by
  refine fn_super lk hcd sc_BadText hcode hvs hfile hcell hD hsuper hop rfl rfl rfl htop rfl (fun vs H Q E h => len_spE (n := 2) (fun ws h => by obtain ⟨_, _, rfl, _⟩ := h; rfl) h) (fun A outer s H vs Q E hr h => ?_) (fun _ => rfl) (fun _ => rfl) (fun _ => rfl)
  obtain ⟨a, ws, rfl, ⟨l, c, rfl, l0, l1, c0, c1⟩, ea, q⟩ := h
  refine ⟨a, C, _, _, rfl, ea, X.oex, X.mro, X.sup, X.subV, pa_cons (pe_joined (.cons pe_str (.cons (pe_fmt (v_ 1)) (.cons pe_str (.cons (pe_fmt (v_ 2)) .nil))))) pa_nil, pss_cons (ps_ost (v_ 0) (v_ 1)) (pss_one (ps_ost (v_ 0) (v_ 2))), ?_⟩
  have tl := text_small l0 l1
  have tc := text_small c0 c1
  have z0 : Str.empty.length = 0 := rfl
  have z1 : (Str.ofString "line ").length = 5 := rfl
  have z2 : (Str.ofString ", column ").length = 9 := rfl
  refine ⟨_, rfl, line_of (by rw [len_add]; omega), .inr ⟨_, rfl, log_small l0 l1, _, rfl, line_of (by rw [len_add, len_add]; omega), ?_⟩⟩
  refine ⟨_, rfl, line_of (by rw [len_add, len_add, len_add]; omega), .inr ⟨_, rfl, log_small c0 c1, _, rfl, line_of (by rw [len_add, len_add, len_add, len_add]; omega), ?_⟩⟩
  refine ⟨ea, (by show 1 ≤ 1000; decide), ?_⟩
  refine ⟨a, C, rfl, X.oex, X.no _ (by simp), .inl ⟨ea, ost1 ea fun dx H' n ne e1 e2 hh => ?_⟩⟩
  refine ⟨a, C, rfl, X.oex, X.no _ (by simp), .inr ⟨dx, _, e1, e2, (by show 1 ≤ 900; decide), ?_⟩⟩
  exact q dx _ n ne (by rw [upd_ne ne.symm]; exact e1) upd_same fun b h1 h2 => by rw [upd_ne h2]; exact hh b h1 h2

theorem ok_split_line {f : Addr} {fd : FuncData} {f_token_end : Addr} {fd_token_end : FuncData} {f_BadText : Addr} {fd_BadText : FuncData} (F : Fun K "split_line" "split_line" s_split_line f fd) (T : Gs K mg t_BOUND t_DIGITS t_LETTERS t_LONGEST_INTEGER t_LONGEST_NAME a_MARKS a_RESERVED a_SIGNS a_BadName a_BadNumber a_BadText a_Change a_ElseputError a_Reader a_TooLarge) (c_token_end : Cal P w K mg base CX0 2 "token_end" f_token_end fd_token_end ["line", "at"] (sp_token_end K)) (c_BadText : CalE P w K mg base 1 "BadText" a_BadText f_BadText fd_BadText ["self", "line", "column"] okx_BadText fs_BadText ["line", "column"]) : FnOk P w K mg base (L2.CX P w) 3 f fd ["line", "number"] (sp_split_line K) := by
  refine F.okX sc_split_line (fun vs H Q E h => len_split_line h) (fun cdv A outer s H vs Q E hr h => ?_)
  obtain ⟨z, num, rfl, hz, n0, n1, q⟩ := h
  refine ⟨_, (pss_cons (ps_set (i := 2) sc_split_line.nd rfl (.inl rfl) (pe_lst pa_nil)) (pss_cons (ps_set (i := 3) sc_split_line.nd rfl (.inl rfl) pe_int) (pss_cons (ps_while (passes_of rfl) (pt_c op_ltM (v_ 3) (pe_callB (lenK K) (by rfl) T.z_len PySem.boot_len (pa_cons (v_ 0) pa_nil))) (pss_cons (ps_set (i := 4) sc_split_line.nd rfl (.inl rfl) (pe_call c_token_end.G (hr.mono (by first | decide | omega)) rfl c_token_end.m c_token_end.kp c_token_end.b .nil pass0 (pa_cons (v_ 0) (pa_cons (v_ 3) pa_nil)))) (pss_one (ps_if (pt_c op_gtM (v_ 4) (v_ 3)) (pss_cons (ps_expr (pe_bm PySem.F.plainAttrs_list PySem.F.slot_list_append PySem.F.type_list_append mt_append (v_ 2) (pa_cons (pe_tup (pa_cons (pe_slice (slK K) (v_ 0) (po_some (v_ 3)) (po_some (v_ 4))) (pa_cons (pe_op (addK K) (v_ 3) pe_int) pa_nil))) pa_nil))) (pss_one (ps_set (i := 3) sc_split_line.nd rfl (.inl rfl) (v_ 4)))) (pss_one (ps_if (pt_c (eqK K hr.units) (e_x K (v_ 0) (v_ 3)) pe_str) (pss_one (ps_aug (i := 3) sc_split_line.nd rfl (.inl rfl) pe_int ip_add)) (pss_one (ps_raise rfl (takes_of rfl rfl rfl rfl) (pmk_oex c_BadText.X.oex c_BadText.X.iC c_BadText.X.tI c_BadText.G (hr.mono (by first | decide | omega)) c_BadText.b .nil pass0 rfl c_BadText.m (pa_cons (v_ 1) (pa_cons (pe_op (addK K) (v_ 3) pe_int) pa_nil))))))))))) (pss_one (ps_ret (v_ 2)))))), ?_⟩
  have hl : z.length ≤ sizeLine := line_of (by omega)
  have bf : ∀ {c : Bool}, ¬ c = true → c = false := fun h => Bool.eq_false_iff.mpr h
  refine ⟨Nat.zero_le _, fun p np => ?_⟩
  refine ⟨fun m σ' H' => ∃ (e : Nat) (y : Option V) (ts : List Addr) (l0 : List (List Nat × Nat)), m = z.length - e ∧ e ≤ z.length ∧ σ' = [some (.str z), some (.int num), some (.ref p), some (.int e), y] ∧ Same H H' ∧ H' p = some (.lst (ts.map V.ref)) ∧ PairL H' ts l0 ∧ l0.length ≤ e ∧
    splitL z.cps.toList 1 = (match splitL (z.cps.toList.drop e) (1 + e) with | .ok l => .ok (l0 ++ l) | .error c => .error c), ⟨_, 0, _, [], [], rfl, Nat.zero_le _, rfl, same_new np, upd_same, trivial, Nat.le_refl _, ?_⟩, ?_⟩
  · rw [List.drop_zero]
    cases splitL z.cps.toList 1 <;> rfl
  rintro m σ' H' ⟨e, y, ts, l0, rfl, he, rfl, sm, hp, hts, hl0, hsp⟩
  refine ⟨hl, ?_⟩
  refine ite2 (fun e1 => ?_) (fun e1 => ?_)
  · have e1 : (e : Int) < z.length := of_decide_eq_true e1
    obtain ⟨c, hc, hd⟩ := drop_cons (z := z) (e := e) (by omega)
    have hk := tokLen_le (z.cps.toList.drop e)
    rw [List.length_drop, len_cps] at hk
    refine ⟨fun σ2 H2 => ∃ m', m' < z.length - e ∧ ∃ (e : Nat) (y : Option V) (ts : List Addr) (l0 : List (List Nat × Nat)), m' = z.length - e ∧ e ≤ z.length ∧ σ2 = [some (.str z), some (.int num), some (.ref p), some (.int e), y] ∧ Same H H2 ∧ H2 p = some (.lst (ts.map V.ref)) ∧ PairL H2 ts l0 ∧ l0.length ≤ e ∧
      splitL z.cps.toList 1 = (match splitL (z.cps.toList.drop e) (1 + e) with | .ok l => .ok (l0 ++ l) | .error c => .error c), fun _ _ h => h, ?_⟩
    refine ⟨z, e, rfl, by omega, hz, fun H2 s2 => ?_⟩
    have sm2 := sm.trans s2
    have hp2 := s2 _ _ hp
    have hts2 := hts.same fun b o _ h => s2 b o h
    generalize hkk : tokLen (z.cps.toList.drop e) = k at hk ⊢
    refine ite2 (fun e2 => ?_) (fun e2 => ?_)
    · have e2 : (e : Int) < ((e + k : Nat) : Int) := of_decide_eq_true e2
      have k0 : 0 < k := by omega
      refine ⟨.inl ⟨rfl, _, SqL.of hp2⟩, _, rfl, _, rfl, hl, (by show 2 ≤ sizeLine; decide), fun t nt => ⟨p, _, _, rfl, rfl, same_new nt _ _ hp2, line_lt (by rw [List.length_map, hts.len]; omega), ?_⟩⟩
      have pt : p ≠ t := ne_of_none hp2 nt
      have tH : H t = none := Same.free sm2 nt
      have ht : upd (upd H2 t (.tup [.str (cutS z (some (e : Int)) (some ((e + k : Nat) : Int))), .int ((e : Int) + 1)])) p (.lst (ts.map V.ref ++ [.ref t])) t = some (.tup [.str (cutS z (some (e : Int)) (some ((e + k : Nat) : Int))), .int (((1 + e : Nat) : Nat) : Int)]) := by
        rw [upd_ne pt.symm, upd_same, show (((1 + e : Nat) : Nat) : Int) = (e : Int) + 1 by omega]
      refine ⟨z.length - (e + k), by omega, e + k, _, ts ++ [t], l0 ++ [((z.cps.toList.drop e).take k, 1 + e)], rfl, by omega, rfl, ?_, ?_, ?_, ?_, ?_⟩
      · intro b o hb
        rw [upd_ne (ne_of_none hb np), upd_ne (ne_of_none hb tH)]
        exact sm2 b o hb
      · rw [upd_same, List.map_append]
        rfl
      · have h1 : PairL (upd (upd H2 t (.tup [.str (cutS z (some (e : Int)) (some ((e + k : Nat) : Int))), .int ((e : Int) + 1)])) p (.lst (ts.map V.ref ++ [.ref t]))) ts l0 := hts2.same fun b o ho hb => by
          obtain ⟨z', i', rfl⟩ := ho
          rw [upd_ne (ne_of hb hp2 (by intro e; cases e)), upd_ne (ne_of_none hb nt)]
          exact hb
        have h2 := h1.snoc ht
        rw [cutS_mid (by omega), show e + k - e = k by omega] at h2
        exact h2
      · rw [List.length_append, List.length_singleton]
        omega
      · rw [hsp, splitL_tok (by rw [hkk]; exact k0), hkk, List.drop_drop, show 1 + e + k = 1 + (e + k) by omega]
        cases splitL (z.cps.toList.drop (e + k)) (1 + (e + k)) with
        | ok l =>
          show Except.ok _ = Except.ok _
          rw [List.append_assoc]
          rfl
        | error c => rfl
    · have e2 : ¬ (e : Int) < ((e + k : Nat) : Int) := of_decide_eq_false (bf e2)
      have k0 : k = 0 := by omega
      subst k0
      have m32 : decide ((⟨#[c]⟩ : Str) = " ") = decide (c = 32) := by
        rw [Bool.eq_iff_iff, decide_eq_true_iff, decide_eq_true_iff, one_eq (d := 32) rfl]
      refine ⟨hl, c, atI_nat hc, ?_⟩
      refine ite2 (fun e3 => ?_) (fun e3 => ?_)
      · have e3 : c = 32 := of_decide_eq_true (m32.symm.trans e3)
        subst e3
        refine ⟨_, rfl, _, _, rfl, rfl, z.length - (e + 1), by omega, e + 1, _, ts, l0, rfl, by omega, rfl, sm2, hp2, hts2, by omega, ?_⟩
        rw [hsp, hd, splitL_space, Nat.add_assoc]
      · have e3 : ¬ c = 32 := of_decide_eq_false (m32.symm.trans (bf e3))
        refine mk_spE (by show 2 ≤ 1000; decide) ⟨num, (e : Int) + 1, rfl, n0, n1, by omega, by omega⟩ (fun d nd => ?_)
        have : splitL z.cps.toList 1 = .error (1 + e) := by
          rw [hsp, hd, splitL_bad (by rw [← hd]; exact hkk) e3]
        unfold Splits at q
        rw [this] at q
        refine q a_BadText d _ T.n_BadText (sm2.trans (same_new nd)) (Same.free sm2 nd) ?_
        rw [upd_same]
        rw [show (((1 + e : Nat) : Nat) : Int) = (e : Int) + 1 by omega]
        rfl
  · have e1 : ¬ (e : Int) < z.length := of_decide_eq_false (bf e1)
    have : z.cps.toList.drop e = [] := List.drop_of_length_le (by rw [len_cps]; omega)
    rw [this, splitL_nil] at hsp
    have hsp : splitL z.cps.toList 1 = .ok (l0 ++ []) := hsp
    unfold Splits at q
    rw [hsp, List.append_nil] at q
    exact q H' p ts sm np hp hts

end
section
variable {P : Program} {w : World} {K : PySem.W.Frag} {mg : Str → Option Value} {base : Heap}
variable {t_BOUND t_DIGITS t_LETTERS t_LONGEST_INTEGER t_LONGEST_NAME : Tok} {a_MARKS a_RESERVED a_SIGNS a_BadName a_BadNumber a_BadText a_Change a_ElseputError a_Reader a_TooLarge : Addr}
/-! ### is_integer -/
def IntB (z : Str) (b : Bool) : Prop := (z.length = 0 ∧ b = false) ∨ (0 < z.length ∧ isD (z.cps.toList.getLastD 0) = false ∧ b = false) ∨ (0 < z.length ∧ isD (z.cps.toList.getLastD 0) = true ∧ 32 < z.length ∧ b = false) ∨
  ∃ n : Int, 0 < z.length ∧ isD (z.cps.toList.getLastD 0) = true ∧ z.length ≤ 32 ∧ PySem.intText? z = some n ∧ n.natAbs.log2 < 1920 ∧ b = (decide (((toString n : String) : Str) = z) && inB n)
def sp_is_integer (K : PySem.W.Frag) : Sp := fun vs H Q _ => ∃ (z : Str) (b : Bool), vs = [.str z] ∧ z.length ≤ 1000 ∧ IntB z b ∧ ∀ H', Same H H' → Q (.bl b) H'
theorem len_is_integer {vs : List V} {H : Hp} {Q : VK} {E : XK} (h : sp_is_integer K vs H Q E) : vs.length = 1 := by
  obtain ⟨_, _, rfl, _⟩ := h
  rfl
theorem dig_in {c : Nat} : decide (c ∈ ("0123456789" : Str).cps.toList) = isD c := by
  rw [digits_cps]
  rfl
theorem ok_is_integer {f : Addr} {fd : FuncData} {f_in_bound : Addr} {fd_in_bound : FuncData} (F : Fun K "is_integer" "is_integer" s_is_integer f fd) (T : Gs K mg t_BOUND t_DIGITS t_LETTERS t_LONGEST_INTEGER t_LONGEST_NAME a_MARKS a_RESERVED a_SIGNS a_BadName a_BadNumber a_BadText a_Change a_ElseputError a_Reader a_TooLarge) (c_in_bound : Cal P w K mg base CX0 1 "in_bound" f_in_bound fd_in_bound ["value"] (sp_in_bound K)) : FnOk P w K mg base CX0 2 f fd ["token"] (sp_is_integer K) := by
  refine F.ok sc_is_integer (fun vs H Q E h => len_is_integer h) (fun cdv A outer s H vs Q E hr h => ?_)
  obtain ⟨z, b, rfl, hl, hz, q⟩ := h
  have q := q H (Same.refl H)
  refine ⟨_, (pss_cons (ps_if (PW.pt (pw_or (pt_c (eqK K hr.units) (v_ 0) pe_str) (pw_or (pt_c (notInK K) (e_x K (v_ 0) (pe_un un_negM pe_int)) (pe_glob (v := .str "0123456789") rfl T.g_DIGITS ⟨_, rfl⟩)) (pw_or1 (pt_c op_gtM (pe_callB (lenK K) (by rfl) T.z_len PySem.boot_len (pa_cons (v_ 0) pa_nil)) (pe_glob (v := .int 32) rfl T.g_LONGEST_INTEGER ⟨_, rfl⟩)))))) (pss_one (ps_ret pe_bl)) pss_nil) (pss_one (ps_ret (pe_andM (pe_c (eqK K hr.units) (pe_callTy call_str_int (by rfl) T.z_str (by decide +kernel) (pa_cons (pe_callTy call_int_str (by rfl) T.z_int (by decide +kernel) (pa_cons (v_ 0) pa_nil)) pa_nil)) (v_ 0)) (pe_one (pe_call c_in_bound.G (hr.mono (by first | decide | omega)) rfl c_in_bound.m c_in_bound.kp c_in_bound.b .nil pass0 (pa_cons (pe_callTy call_int_str (by rfl) T.z_int (by decide +kernel) (pa_cons (v_ 0) pa_nil)) pa_nil))))))), ?_⟩
  refine ite2 (fun e => ?_) (fun e => ?_)
  · have e : z = "" := of_decide_eq_true e
    have hb : b = false := by
      subst e
      rcases hz with h | h | h | ⟨n, h, _⟩
      · exact h.2
      · exact h.2.2
      · exact h.2.2.2
      · exact absurd h (by decide)
    rw [hb] at q
    exact q
  have e : ¬ z = "" := of_decide_eq_false (Bool.eq_false_iff.mpr e)
  have hpos : 0 < z.length := by
    rcases Nat.eq_zero_or_pos z.length with h | h
    · refine absurd (str_eq.mpr ?_) e
      have := len_cps z
      rw [h] at this
      rw [List.eq_nil_of_length_eq_zero this]
      rfl
    · exact h
  refine ⟨line_of (by omega), _, at_last hpos, _, rfl, ?_⟩
  refine ite2 (fun e => ?_) (fun e => ?_)
  · have e : (!isD (z.cps.toList.getLastD 0)) = true := by rw [← dig_in]; exact e
    have hb : b = false := by
      rw [Bool.not_eq_true'] at e
      rcases hz with h | h | h | ⟨n, _, h, _⟩
      · exact h.2
      · exact h.2.2
      · exact h.2.2.2
      · rw [e] at h; cases h
    rw [hb] at q
    exact q
  have e : isD (z.cps.toList.getLastD 0) = true := by
    have e : ¬ (!isD (z.cps.toList.getLastD 0)) = true := by rw [← dig_in]; exact e
    rw [Bool.not_eq_true, Bool.not_eq_false'] at e
    exact e
  refine ⟨line_of (by omega), ?_⟩
  refine ite2 (fun e2 => ?_) (fun e2 => ?_)
  · have e2 : (32 : Int) < z.length := of_decide_eq_true e2
    have hb : b = false := by
      rcases hz with h | h | h | ⟨n, _, _, h, _⟩
      · exact h.2
      · exact h.2.2
      · exact h.2.2.2
      · omega
    rw [hb] at q
    exact q
  have e2 : ¬ (32 : Int) < z.length := of_decide_eq_false (Bool.eq_false_iff.mpr e2)
  rcases hz with h | h | h | ⟨n, _, _, _, hn, hlog, rfl⟩
  · omega
  · rw [e] at h; cases h.2.1
  · omega
  refine ⟨z, n, rfl, hn, by omega, n, rfl, hlog, ?_⟩
  refine ite2 (fun e3 => ?_) (fun e3 => ?_)
  · refine ⟨z, n, rfl, hn, by omega, n, rfl, ?_⟩
    have e3 : decide (((toString n : String) : Str) = z) = true := e3
    rw [e3, Bool.true_and] at q
    exact q
  · have e3 : decide (((toString n : String) : Str) = z) = false := Bool.eq_false_iff.mpr e3
    rw [e3, Bool.false_and] at q
    exact q
end
section
variable {P : Program} {w : World} {K : PySem.W.Frag} {mg : Str → Option Value} {base : Heap}
variable {t_BOUND t_DIGITS t_LETTERS t_LONGEST_INTEGER t_LONGEST_NAME : Tok} {a_MARKS a_RESERVED a_SIGNS a_BadName a_BadNumber a_BadText a_Change a_ElseputError a_Reader a_TooLarge : Addr}
/-! ### the reader -/
abbrev Tks := List (List Nat × Nat)
def RdAt (K : PySem.W.Frag) (H : Hp) (a p : Addr) (num e : Int) (toks : Tks) (i : Nat) : Prop := ∃ (C dx : Addr) (ts : List Addr), PySem.W.nsIn K mainGlobals "Reader" = some (some (.ref C)) ∧ H a = some (.ins C dx [("_parts", .ref p), ("_number", .int num), ("_end", .int e), ("_at", .int i)]) ∧ H p = some (.lst (ts.map V.ref)) ∧ PairL H ts toks ∧ i ≤ toks.length
def tokAt (toks : Tks) (i : Nat) : List Nat := (toks[i]?.map (·.1)).getD []
def colAt (toks : Tks) (e : Int) (i : Nat) : Int := (toks[i]?.map (fun x => (x.2 : Int))).getD e
/-- sizes: texts of at most 1000 signs, columns of at most 100000 -/
def TkOk (toks : Tks) : Prop := ∀ x ∈ toks, x.1.length ≤ 1000 ∧ x.2 ≤ 100000
theorem PairL.get {H : Hp} : ∀ {ts : List Addr} {l : Tks}, PairL H ts l → ∀ {i : Nat} {x : List Nat × Nat}, l[i]? = some x → ∃ t, ts[i]? = some t ∧ H t = some (.tup [.str (mkS x.1), .int (x.2 : Int)])
  | t :: ts, x :: xs, ⟨⟨z, h1, h2⟩, h⟩, 0, y, e => by
    simp at e
    subst e
    exact ⟨t, rfl, by rw [h1, mkS_of h2]⟩
  | t :: ts, x :: xs, ⟨_, h⟩, i + 1, y, e => by simpa using h.get (i := i) (x := y) (by simpa using e)
  | [], _ :: _, h, _, _, _ => False.elim h
theorem tokAt_of {toks : Tks} {i : Nat} {x : List Nat × Nat} (h : toks[i]? = some x) : tokAt toks i = x.1 := by unfold tokAt; rw [h]; rfl
theorem tokAt_end {toks : Tks} {i : Nat} (h : toks.length ≤ i) : tokAt toks i = [] := by unfold tokAt; rw [List.getElem?_eq_none h]; rfl
theorem tokAt_lt {toks : Tks} {i : Nat} (h : tokAt toks i ≠ []) : i < toks.length := by
  rcases Nat.lt_or_ge i toks.length with h1 | h1
  · exact h1
  · exact absurd (tokAt_end h1) h
theorem tokAt_le {toks : Tks} {i : Nat} (h : TkOk toks) : (tokAt toks i).length ≤ 1000 := by
  unfold tokAt
  cases e : toks[i]? with
  | none => exact Nat.zero_le _
  | some x => exact (h x (List.mem_of_getElem? e)).1
def BadAt (K : PySem.W.Frag) (H : Hp) (num col : Int) (E : XK) : Prop := ∀ (C d : Addr) (H' : Hp), PySem.W.nsIn K mainGlobals "BadText" = some (some (.ref C)) → Same H H' → H d = none → H' d = some (.xd [("column", .int col), ("line", .int num)]) → E (.ref C) (some d) H'
theorem RdAt.bt {a p : Addr} {num e : Int} {toks : Tks} {i : Nat} {H H' : Hp} (h : RdAt K H a p num e toks i) (s : Same H H') : RdAt K H' a p num e toks i := by
  obtain ⟨C, dx, ts, h1, h2, h3, h4, h5⟩ := h
  exact ⟨C, dx, ts, h1, s _ _ h2, s _ _ h3, h4.same fun b o _ hb => s b o hb, h5⟩
/-- the reader one further -/
theorem RdAt.on {a p : Addr} {num e : Int} {toks : Tks} {i : Nat} {H : Hp} {C dx : Addr} {ts : List Addr} (hC : PySem.W.nsIn K mainGlobals "Reader" = some (some (.ref C))) (h2 : H a = some (.ins C dx [("_parts", .ref p), ("_number", .int num), ("_end", .int e), ("_at", .int i)])) (h3 : H p = some (.lst (ts.map V.ref))) (h4 : PairL H ts toks) (h5 : i < toks.length) :
    RdAt K (upd H a (.ins C dx [("_parts", .ref p), ("_number", .int num), ("_end", .int e), ("_at", .int ((i + 1 : Nat) : Int))])) a p num e toks (i + 1) := by
  refine ⟨C, dx, ts, hC, upd_same, ?_, h4.same fun b o ho hb => ?_, h5⟩
  · rw [upd_ne (ne_of h3 h2 (by intro e; cases e))]
    exact h3
  · obtain ⟨z, n, rfl⟩ := ho
    rw [upd_ne (ne_of hb h2 (by intro e; cases e))]
    exact hb
def Rd0 (K : PySem.W.Frag) (H : Hp) (a p : Addr) (num e : Int) (toks : Tks) (i : Nat) : Prop := RdAt K H a p num e toks i ∧ TkOk toks ∧ 0 ≤ num ∧ num ≤ 100000 ∧ 0 ≤ e ∧ e ≤ 100000
def sp_Reader_at_end (K : PySem.W.Frag) : Sp := fun vs H Q _ => ∃ (a p : Addr) (num e : Int) (toks : Tks) (i : Nat), vs = [.ref a] ∧ RdAt K H a p num e toks i ∧ Q (.bl (decide (i = toks.length))) H
theorem len_Reader_at_end {vs : List V} {H : Hp} {Q : VK} {E : XK} (h : sp_Reader_at_end K vs H Q E) : vs.length = 1 := by
  obtain ⟨_, _, _, _, _, _, rfl, _⟩ := h
  rfl
theorem ok_Reader_at_end {f : Addr} {fd : FuncData} (F : Fun K "at_end" "Reader.at_end" s_Reader_at_end f fd) (T : Gs K mg t_BOUND t_DIGITS t_LETTERS t_LONGEST_INTEGER t_LONGEST_NAME a_MARKS a_RESERVED a_SIGNS a_BadName a_BadNumber a_BadText a_Change a_ElseputError a_Reader a_TooLarge) : FnOk P w K mg base CX0 1 f fd ["self"] (sp_Reader_at_end K) := by
  refine F.ok sc_Reader_at_end (fun vs H Q E h => len_Reader_at_end h) (fun cdv A outer s H vs Q E hr h => ?_)
  obtain ⟨a, p, num, e, toks, i, rfl, ⟨C, dx, ts, hC, ha, hp, hts, hi⟩, q⟩ := h
  cases hC.symm.trans T.n_Reader
  refine ⟨_, (pss_one (ps_ret (pe_c (eqK K hr.units) (e_f K (v_ 0)) (pe_callB (lenK K) (by rfl) T.z_len PySem.boot_len (pa_cons (e_f K (v_ 0)) pa_nil))))), ?_⟩
  refine ⟨a, a_Reader, dx, _, _, rfl, ha, T.cl_Reader, T.na_Reader__at, rfl, ?_⟩
  refine ⟨a, a_Reader, dx, _, _, rfl, ha, T.cl_Reader, T.na_Reader__parts, rfl, ?_⟩
  refine .inl ⟨_, .inl (SqL.of hp), ?_⟩
  rw [List.length_map, hts.len]
  have e : decide ((i : Int) = (toks.length : Int)) = decide (i = toks.length) := by
    rw [Bool.eq_iff_iff, decide_eq_true_iff, decide_eq_true_iff]
    omega
  rw [← e] at q
  exact q
def sp_Reader_ahead (K : PySem.W.Frag) : Sp := fun vs H Q _ => ∃ (a p : Addr) (num e : Int) (toks : Tks) (i : Nat), vs = [.ref a] ∧ RdAt K H a p num e toks i ∧ Q (.str (mkS (tokAt toks i))) H
theorem len_Reader_ahead {vs : List V} {H : Hp} {Q : VK} {E : XK} (h : sp_Reader_ahead K vs H Q E) : vs.length = 1 := by
  obtain ⟨_, _, _, _, _, _, rfl, _⟩ := h
  rfl
theorem ok_Reader_ahead {f : Addr} {fd : FuncData} {f_Reader_at_end : Addr} {fd_Reader_at_end : FuncData} (F : Fun K "ahead" "Reader.ahead" s_Reader_ahead f fd) (T : Gs K mg t_BOUND t_DIGITS t_LETTERS t_LONGEST_INTEGER t_LONGEST_NAME a_MARKS a_RESERVED a_SIGNS a_BadName a_BadNumber a_BadText a_Change a_ElseputError a_Reader a_TooLarge) (c_Reader_at_end : CalM P w K mg base CX0 1 a_Reader "at_end" f_Reader_at_end fd_Reader_at_end ["self"] (sp_Reader_at_end K)) : FnOk P w K mg base CX0 2 f fd ["self"] (sp_Reader_ahead K) := by
  refine F.ok sc_Reader_ahead (fun vs H Q E h => len_Reader_ahead h) (fun cdv A outer s H vs Q E hr h => ?_)
  obtain ⟨a, p, num, e, toks, i, rfl, hR, q⟩ := h
  obtain ⟨C, dx, ts, hC, ha, hp, hts, hi⟩ := id hR
  cases hC.symm.trans T.n_Reader
  refine ⟨_, (pss_one (ps_ret (pe_ifExp (pt_t K (pe_meth0 (v_ 0) c_Reader_at_end.cl c_Reader_at_end.me c_Reader_at_end.G (hr.mono (by first | decide | omega)) c_Reader_at_end.b .nil pass0)) pe_str (e_x K (e_x K (e_f K (v_ 0)) (e_f K (v_ 0))) pe_int)))), ?_⟩
  refine ⟨a, dx, _, rfl, ha, rfl, a, p, num, e, toks, i, rfl, hR, ?_⟩
  refine ite2 (fun e1 => ?_) (fun e1 => ?_)
  · have e1 : i = toks.length := of_decide_eq_true e1
    rw [tokAt_end (by omega)] at q
    exact q
  · have e1 : ¬ i = toks.length := of_decide_eq_false (Bool.eq_false_iff.mpr e1)
    obtain ⟨x, hx⟩ : ∃ x, toks[i]? = some x := ⟨_, List.getElem?_eq_getElem (by omega)⟩
    obtain ⟨t, ht1, ht2⟩ := hts.get hx
    rw [tokAt_of hx] at q
    refine ⟨a, a_Reader, dx, _, _, rfl, ha, T.cl_Reader, T.na_Reader__parts, rfl, ?_⟩
    refine ⟨a, a_Reader, dx, _, _, rfl, ha, T.cl_Reader, T.na_Reader__at, rfl, ?_⟩
    refine ⟨_, .inl (SqL.of hp), .ref t, atI_nat (by rw [List.getElem?_map, ht1]; rfl), ?_⟩
    exact ⟨_, .inr (SqT.of ht2), .str (mkS x.1), rfl, q⟩
def sp_Reader__refuse (K : PySem.W.Frag) : Sp := fun vs H Q E => ∃ (a p : Addr) (num e : Int) (toks : Tks) (i : Nat), vs = [.ref a] ∧ Rd0 K H a p num e toks i ∧ BadAt K H num (colAt toks e i) E
theorem len_Reader__refuse {vs : List V} {H : Hp} {Q : VK} {E : XK} (h : sp_Reader__refuse K vs H Q E) : vs.length = 1 := by
  obtain ⟨_, _, _, _, _, _, rfl, _⟩ := h
  rfl
theorem ok_Reader__refuse {f : Addr} {fd : FuncData} {f_Reader_at_end : Addr} {fd_Reader_at_end : FuncData} {f_BadText : Addr} {fd_BadText : FuncData} (F : Fun K "_refuse" "Reader._refuse" s_Reader__refuse f fd) (T : Gs K mg t_BOUND t_DIGITS t_LETTERS t_LONGEST_INTEGER t_LONGEST_NAME a_MARKS a_RESERVED a_SIGNS a_BadName a_BadNumber a_BadText a_Change a_ElseputError a_Reader a_TooLarge) (c_Reader_at_end : CalM P w K mg base CX0 1 a_Reader "at_end" f_Reader_at_end fd_Reader_at_end ["self"] (sp_Reader_at_end K)) (c_BadText : CalE P w K mg base 1 "BadText" a_BadText f_BadText fd_BadText ["self", "line", "column"] okx_BadText fs_BadText ["line", "column"]) : FnOk P w K mg base (L2.CX P w) 3 f fd ["self"] (sp_Reader__refuse K) := by
  refine F.okX sc_Reader__refuse (fun vs H Q E h => len_Reader__refuse h) (fun cdv A outer s H vs Q E hr h => ?_)
  obtain ⟨a, p, num, e, toks, i, rfl, ⟨hR, hT, n0, n1, e0, e1⟩, q⟩ := h
  obtain ⟨C, dx, ts, hC, ha, hp, hts, hi⟩ := id hR
  cases hC.symm.trans T.n_Reader
  refine ⟨_, (pss_cons (ps_set (i := 1) sc_Reader__refuse.nd rfl (.inl rfl) (pe_ifExp (pt_t K (pe_meth0 (v_ 0) c_Reader_at_end.cl c_Reader_at_end.me c_Reader_at_end.G (hr.mono (by first | decide | omega)) c_Reader_at_end.b .nil pass0)) (e_f K (v_ 0)) (e_x K (e_x K (e_f K (v_ 0)) (e_f K (v_ 0))) pe_int))) (pss_one (ps_raise rfl (takes_of rfl rfl rfl rfl) (pmk_oex c_BadText.X.oex c_BadText.X.iC c_BadText.X.tI c_BadText.G (hr.mono (by first | decide | omega)) c_BadText.b .nil pass0 rfl c_BadText.m (pa_cons (e_f K (v_ 0)) (pa_cons (v_ 1) pa_nil)))))), ?_⟩
  refine ⟨a, dx, _, rfl, ha, rfl, a, p, num, e, toks, i, rfl, hR, ?_⟩
  refine ite2 (fun e2 => ?_) (fun e2 => ?_)
  · have e2 : i = toks.length := of_decide_eq_true e2
    refine ⟨a, a_Reader, dx, _, _, rfl, ha, T.cl_Reader, T.na_Reader__end, rfl, ?_⟩
    refine ⟨a, a_Reader, dx, _, _, rfl, ha, T.cl_Reader, T.na_Reader__number, rfl, ?_⟩
    refine mk_spE (by show 2 ≤ 1000; decide) ⟨num, e, rfl, n0, n1, e0, e1⟩ (fun d nd => ?_)
    have hc : colAt toks e i = e := by unfold colAt; rw [List.getElem?_eq_none (by omega)]; rfl
    rw [hc] at q
    exact q a_BadText d _ T.n_BadText (same_new nd) nd upd_same
  · have e2 : ¬ i = toks.length := of_decide_eq_false (Bool.eq_false_iff.mpr e2)
    obtain ⟨x, hx⟩ : ∃ x, toks[i]? = some x := ⟨_, List.getElem?_eq_getElem (by omega)⟩
    obtain ⟨t, ht1, ht2⟩ := hts.get hx
    have hxb := (hT x (List.mem_of_getElem? hx)).2
    refine ⟨a, a_Reader, dx, _, _, rfl, ha, T.cl_Reader, T.na_Reader__parts, rfl, ?_⟩
    refine ⟨a, a_Reader, dx, _, _, rfl, ha, T.cl_Reader, T.na_Reader__at, rfl, ?_⟩
    refine ⟨_, .inl (SqL.of hp), .ref t, atI_nat (by rw [List.getElem?_map, ht1]; rfl), ?_⟩
    refine ⟨_, .inr (SqT.of ht2), .int (x.2 : Int), rfl, ?_⟩
    refine ⟨a, a_Reader, dx, _, _, rfl, ha, T.cl_Reader, T.na_Reader__number, rfl, ?_⟩
    refine mk_spE (by show 2 ≤ 1000; decide) ⟨num, (x.2 : Int), rfl, n0, n1, by omega, by omega⟩ (fun d nd => ?_)
    have hc : colAt toks e i = (x.2 : Int) := by unfold colAt; rw [hx]; rfl
    rw [hc] at q
    exact q a_BadText d _ T.n_BadText (same_new nd) nd upd_same
def Took (K : PySem.W.Frag) (H : Hp) (a p : Addr) (num e : Int) (toks : Tks) (i : Nat) (v : V) (Q : VK) : Prop := i < toks.length ∧ ∀ H', Bt a H H' → RdAt K H' a p num e toks (i + 1) → Q v H'
def sp_Reader__take_if (K : PySem.W.Frag) : Sp := fun vs H Q E => ∃ (a p : Addr) (num e : Int) (toks : Tks) (i : Nat) (b : Bool), vs = [.ref a, .bl b] ∧ Rd0 K H a p num e toks i ∧ (if b = true then Took K H a p num e toks i (.str (mkS (tokAt toks i))) Q else BadAt K H num (colAt toks e i) E)
theorem len_Reader__take_if {vs : List V} {H : Hp} {Q : VK} {E : XK} (h : sp_Reader__take_if K vs H Q E) : vs.length = 2 := by
  obtain ⟨_, _, _, _, _, _, _, rfl, _⟩ := h
  rfl
theorem ok_Reader__take_if {f : Addr} {fd : FuncData} {f_Reader_ahead : Addr} {fd_Reader_ahead : FuncData} {f_Reader__refuse : Addr} {fd_Reader__refuse : FuncData} (F : Fun K "_take_if" "Reader._take_if" s_Reader__take_if f fd) (T : Gs K mg t_BOUND t_DIGITS t_LETTERS t_LONGEST_INTEGER t_LONGEST_NAME a_MARKS a_RESERVED a_SIGNS a_BadName a_BadNumber a_BadText a_Change a_ElseputError a_Reader a_TooLarge) (c_Reader_ahead : CalM P w K mg base CX0 2 a_Reader "ahead" f_Reader_ahead fd_Reader_ahead ["self"] (sp_Reader_ahead K)) (c_Reader__refuse : CalM P w K mg base (L2.CX P w) 3 a_Reader "_refuse" f_Reader__refuse fd_Reader__refuse ["self"] (sp_Reader__refuse K)) : FnOk P w K mg base (L2.CX P w) 4 f fd ["self", "fits"] (sp_Reader__take_if K) := by
  refine F.okX sc_Reader__take_if (fun vs H Q E h => len_Reader__take_if h) (fun cdv A outer s H vs Q E hr h => ?_)
  obtain ⟨a, p, num, e, toks, i, b, rfl, hR0, q⟩ := h
  obtain ⟨hR, hT, n0, n1, e0, e1⟩ := id hR0
  obtain ⟨C, dx, ts, hC, ha, hp, hts, hi⟩ := id hR
  cases hC.symm.trans T.n_Reader
  refine ⟨_, (Evl.pss_cut (ps_if (pt_not (pt_t K (v_ 1))) (pss_one (ps_expr (pe_meth0 (v_ 0) c_Reader__refuse.cl c_Reader__refuse.me c_Reader__refuse.G (hr.mono (by first | decide | omega)) c_Reader__refuse.b .nil (passes_call (takes_of rfl rfl rfl rfl) (fun _ _ _ _ h => h))))) pss_nil) (pss_cons (ps_set (i := 2) sc_Reader__take_if.nd rfl (.inl rfl) (pe_meth0 (v_ 0) c_Reader_ahead.cl c_Reader_ahead.me c_Reader_ahead.G (hr.mono (by first | decide | omega)) c_Reader_ahead.b .nil pass0)) (pss_cons (ps_fldaug (v_ 0) pe_int in_add) (pss_one (ps_ret (v_ 2)))))), ?_⟩
  refine ⟨fun σ' H' => b = true ∧ σ' = [some (.ref a), some (.bl b), none] ∧ H' = H, ?_, ?_⟩
  · cases b with
    | true => exact ⟨rfl, rfl, rfl⟩
    | false =>
      rw [if_neg (by decide)] at q
      exact ⟨a, dx, _, rfl, ha, rfl, a, p, num, e, toks, i, rfl, hR0, q⟩
  rintro σ' H' ⟨rfl, rfl, rfl⟩
  rw [if_pos rfl] at q
  obtain ⟨hlt, q⟩ := q
  refine ⟨a, dx, _, rfl, ha, rfl, a, p, num, e, toks, i, rfl, hR, ?_⟩
  refine ⟨a, a_Reader, dx, _, _, rfl, ha, T.cl_Reader, T.na_Reader__at, rfl, ?_⟩
  refine ⟨_, _, rfl, rfl, dx, _, ha, (by show 4 < 1000; decide), ?_⟩
  exact q _ (fun b o nb hb => by rw [upd_ne nb]; exact hb) (RdAt.on T.n_Reader ha hp hts hlt)
def sp_Reader_skip (K : PySem.W.Frag) : Sp := fun vs H Q _ => ∃ (a p : Addr) (num e : Int) (toks : Tks) (i : Nat) (z : Str), vs = [.ref a, .str z] ∧ RdAt K H a p num e toks i ∧ z.cps.toList ≠ [] ∧ (if tokAt toks i = z.cps.toList then Took K H a p num e toks i (.bl true) Q else Q (.bl false) H)
theorem len_Reader_skip {vs : List V} {H : Hp} {Q : VK} {E : XK} (h : sp_Reader_skip K vs H Q E) : vs.length = 2 := by
  obtain ⟨_, _, _, _, _, _, _, rfl, _⟩ := h
  rfl
theorem ok_Reader_skip {f : Addr} {fd : FuncData} {f_Reader_ahead : Addr} {fd_Reader_ahead : FuncData} (F : Fun K "skip" "Reader.skip" s_Reader_skip f fd) (T : Gs K mg t_BOUND t_DIGITS t_LETTERS t_LONGEST_INTEGER t_LONGEST_NAME a_MARKS a_RESERVED a_SIGNS a_BadName a_BadNumber a_BadText a_Change a_ElseputError a_Reader a_TooLarge) (c_Reader_ahead : CalM P w K mg base CX0 2 a_Reader "ahead" f_Reader_ahead fd_Reader_ahead ["self"] (sp_Reader_ahead K)) : FnOk P w K mg base CX0 3 f fd ["self", "token"] (sp_Reader_skip K) := by
  refine F.ok sc_Reader_skip (fun vs H Q E h => len_Reader_skip h) (fun cdv A outer s H vs Q E hr h => ?_)
  obtain ⟨a, p, num, e, toks, i, z, rfl, hR, hz, q⟩ := h
  obtain ⟨C, dx, ts, hC, ha, hp, hts, hi⟩ := id hR
  cases hC.symm.trans T.n_Reader
  refine ⟨_, (pss_cons (ps_if (pt_c (neK K hr.units) (pe_meth0 (v_ 0) c_Reader_ahead.cl c_Reader_ahead.me c_Reader_ahead.G (hr.mono (by first | decide | omega)) c_Reader_ahead.b .nil pass0) (v_ 1)) (pss_one (ps_ret pe_bl)) pss_nil) (pss_cons (ps_fldaug (v_ 0) pe_int in_add) (pss_one (ps_ret pe_bl)))), ?_⟩
  refine ⟨a, dx, _, rfl, ha, rfl, a, p, num, e, toks, i, rfl, hR, ?_⟩
  have hq : (mkS (tokAt toks i) = z) ↔ tokAt toks i = z.cps.toList := by rw [str_eq, mkS_cps]
  refine ite2 (fun e1 => ?_) (fun e1 => ?_)
  · have e1 : ¬ mkS (tokAt toks i) = z := by
      have e1 : (!decide (mkS (tokAt toks i) = z)) = true := e1
      rw [Bool.not_eq_true', decide_eq_false_iff_not] at e1
      exact e1
    rw [if_neg (fun h => e1 (hq.mpr h))] at q
    exact q
  · have e1 : mkS (tokAt toks i) = z := by
      have e1 : ¬ (!decide (mkS (tokAt toks i) = z)) = true := e1
      rw [Bool.not_eq_true, Bool.not_eq_false', decide_eq_true_iff] at e1
      exact e1
    rw [if_pos (hq.mp e1)] at q
    obtain ⟨hlt, q⟩ := q
    refine ⟨a, a_Reader, dx, _, _, rfl, ha, T.cl_Reader, T.na_Reader__at, rfl, ?_⟩
    refine ⟨_, _, rfl, rfl, dx, _, ha, (by show 4 < 1000; decide), ?_⟩
    exact q _ (fun b o nb hb => by rw [upd_ne nb]; exact hb) (RdAt.on T.n_Reader ha hp hts hlt)
def sp_Reader_take_end (K : PySem.W.Frag) : Sp := fun vs H Q E => ∃ (a p : Addr) (num e : Int) (toks : Tks) (i : Nat), vs = [.ref a] ∧ Rd0 K H a p num e toks i ∧ (if i = toks.length then Q .non H else BadAt K H num (colAt toks e i) E)
theorem len_Reader_take_end {vs : List V} {H : Hp} {Q : VK} {E : XK} (h : sp_Reader_take_end K vs H Q E) : vs.length = 1 := by
  obtain ⟨_, _, _, _, _, _, rfl, _⟩ := h
  rfl
theorem ok_Reader_take_end {f : Addr} {fd : FuncData} {f_Reader_at_end : Addr} {fd_Reader_at_end : FuncData} {f_Reader__refuse : Addr} {fd_Reader__refuse : FuncData} (F : Fun K "take_end" "Reader.take_end" s_Reader_take_end f fd) (T : Gs K mg t_BOUND t_DIGITS t_LETTERS t_LONGEST_INTEGER t_LONGEST_NAME a_MARKS a_RESERVED a_SIGNS a_BadName a_BadNumber a_BadText a_Change a_ElseputError a_Reader a_TooLarge) (c_Reader_at_end : CalM P w K mg base CX0 1 a_Reader "at_end" f_Reader_at_end fd_Reader_at_end ["self"] (sp_Reader_at_end K)) (c_Reader__refuse : CalM P w K mg base (L2.CX P w) 3 a_Reader "_refuse" f_Reader__refuse fd_Reader__refuse ["self"] (sp_Reader__refuse K)) : FnOk P w K mg base (L2.CX P w) 4 f fd ["self"] (sp_Reader_take_end K) := by
  refine F.okX sc_Reader_take_end (fun vs H Q E h => len_Reader_take_end h) (fun cdv A outer s H vs Q E hr h => ?_)
  obtain ⟨a, p, num, e, toks, i, rfl, hR0, q⟩ := h
  obtain ⟨hR, hT, n0, n1, e0, e1⟩ := id hR0
  obtain ⟨C, dx, ts, hC, ha, hp, hts, hi⟩ := id hR
  cases hC.symm.trans T.n_Reader
  refine ⟨_, (pss_one (ps_if (pt_not (pt_t K (pe_meth0 (v_ 0) c_Reader_at_end.cl c_Reader_at_end.me c_Reader_at_end.G (hr.mono (by first | decide | omega)) c_Reader_at_end.b .nil pass0))) (pss_one (ps_expr (pe_meth0 (v_ 0) c_Reader__refuse.cl c_Reader__refuse.me c_Reader__refuse.G (hr.mono (by first | decide | omega)) c_Reader__refuse.b .nil (passes_call (takes_of rfl rfl rfl rfl) (fun _ _ _ _ h => h))))) pss_nil)), ?_⟩
  refine ⟨a, dx, _, rfl, ha, rfl, a, p, num, e, toks, i, rfl, hR, ?_⟩
  refine ite2 (fun e1 => ?_) (fun e1 => ?_)
  · have e1 : ¬ i = toks.length := by
      have e1 : (!decide (i = toks.length)) = true := e1
      rw [Bool.not_eq_true', decide_eq_false_iff_not] at e1
      exact e1
    rw [if_neg e1] at q
    exact ⟨a, dx, _, rfl, ha, rfl, a, p, num, e, toks, i, rfl, hR0, q⟩
  · have e1 : i = toks.length := by
      have e1 : ¬ (!decide (i = toks.length)) = true := e1
      rw [Bool.not_eq_true, Bool.not_eq_false', decide_eq_true_iff] at e1
      exact e1
    rw [if_pos e1] at q
    exact q
end
section
variable {P : Program} {w : World} {K : PySem.W.Frag} {mg : Str → Option Value} {base : Heap}
variable {t_BOUND t_DIGITS t_LETTERS t_LONGEST_INTEGER t_LONGEST_NAME : Tok} {a_MARKS a_RESERVED a_SIGNS a_BadName a_BadNumber a_BadText a_Change a_ElseputError a_Reader a_TooLarge : Addr}
/-! ### integers as tokens -/
theorem digitsVal_lt : ∀ (cs : List Nat) (acc : Nat), (∀ c ∈ cs, 48 ≤ c ∧ c ≤ 57) → cs.foldl (fun acc c => acc * 10 + (c - 48)) acc < (acc + 1) * 10 ^ cs.length
  | [], acc, _ => by simp
  | c :: r, acc, h => by
    have hc := h c List.mem_cons_self
    have ih := digitsVal_lt r (acc * 10 + (c - 48)) fun d hd => h d (List.mem_cons_of_mem _ hd)
    rw [List.foldl_cons, List.length_cons, Nat.pow_succ]
    refine Nat.lt_of_lt_of_le ih ?_
    rw [Nat.mul_comm (10 ^ r.length) 10, ← Nat.mul_assoc]
    exact Nat.mul_le_mul_right _ (by omega)
theorem digits_small {cs : List Nat} (h : ∀ c ∈ cs, 48 ≤ c ∧ c ≤ 57) (hl : cs.length ≤ 32) : ((PySem.NumText.digitsVal cs : Nat) : Int).natAbs.log2 < 1920 := by
  have h1 := digitsVal_lt cs 0 h
  have h2 : PySem.NumText.digitsVal cs < 10 ^ 32 := by
    refine Nat.lt_of_lt_of_le (show PySem.NumText.digitsVal cs < (0 + 1) * 10 ^ cs.length from h1) ?_
    rw [Nat.zero_add, Nat.one_mul]
    exact Nat.pow_le_pow_right (by decide) hl
  rw [Int.natAbs_natCast]
  by_cases hz : PySem.NumText.digitsVal cs = 0
  · rw [hz]
    decide
  · exact (Nat.log2_lt hz).mpr (Nat.lt_of_lt_of_le h2 (Nat.le_trans (by decide : 10 ^ 32 ≤ 2 ^ 110) (Nat.pow_le_pow_right (by decide) (by decide))))
open Classical in
noncomputable def rdI (p : List Nat) : Option Int := if h : ∃ n : Int, ((toString n : String) : Str) = mkS p ∧ inB n = true then some h.choose else none
theorem num_short {n : Int} (h : inB n = true) : ((toString n : String) : Str).length ≤ 32 := by
  unfold inB at h
  rw [Bool.and_eq_true, decide_eq_true_iff, decide_eq_true_iff] at h
  rw [PySem.ofString_length]
  refine Nat.le_trans (int_text_length_le10 (a := n) (k := 31) (by decide) ?_) (by decide)
  have e : (10 : Nat) ^ 31 = 10000000000000000000000000000000 := by decide +kernel
  rw [e]
  omega
theorem rdI_num {n : Int} (h : inB n = true) : rdI ((toString n : String) : Str).cps.toList = some n := by
  unfold rdI
  have ex : ∃ m : Int, ((toString m : String) : Str) = mkS ((toString n : String) : Str).cps.toList ∧ inB m = true := ⟨n, (mkS_self _).symm, h⟩
  rw [dif_pos ex]
  congr 1
  have hs := ex.choose_spec
  generalize ex.choose = m at hs
  obtain ⟨h1, h2⟩ := hs
  rw [mkS_self] at h1
  have e1 := num_reads' (i := m) (Nat.le_trans (num_short h2) (by decide))
  have e2 := num_reads' (i := n) (Nat.le_trans (num_short h) (by decide))
  rw [h1, e2] at e1
  exact (Option.some.inj e1).symm
theorem rdI_spec {p : List Nat} {n : Int} (h : rdI p = some n) : mkS p = ((toString n : String) : Str) ∧ inB n = true := by
  unfold rdI at h
  split at h
  · rename_i ex
    have e := Option.some.inj h
    have hs := ex.choose_spec
    rw [e] at hs
    exact ⟨hs.1.symm, hs.2⟩
  · cases h
def TokE (p : List Nat) : Prop := p = [] ∨ Tok p
theorem intB_of {p : List Nat} (h : TokE p) : IntB (mkS p) (rdI p).isSome ∧ ∀ n, rdI p = some n → PySem.intText? (mkS p) = some n ∧ p.length ≤ 32 := by
  have sec : ∀ n, rdI p = some n → PySem.intText? (mkS p) = some n ∧ p.length ≤ 32 := fun n hn => by
    obtain ⟨e, hb⟩ := rdI_spec hn
    have hl := num_short hb
    rw [e]
    refine ⟨num_reads' (Nat.le_trans hl (by decide)), ?_⟩
    rw [← mkS_len p, e]
    exact hl
  refine ⟨?_, sec⟩
  have no : ∀ {P : Prop}, (∀ n, rdI p = some n → P) → ¬ P → (rdI p).isSome = false := fun h1 h2 => by
    cases e : rdI p with
    | none => rfl
    | some n => exact absurd (h1 n e) h2
  by_cases h0 : p = []
  · refine .inl ⟨by rw [mkS_len, h0]; rfl, ?_⟩
    refine no (P := False) (fun n hn => ?_) (fun h => h)
    obtain ⟨e, _⟩ := rdI_spec hn
    have := int_text_ne n
    rw [← e, mkS_cps] at this
    exact this h0
  have hpos : 0 < (mkS p).length := by rw [mkS_len]; exact List.length_pos_iff.mpr h0
  cases hd : isD (p.getLastD 0) with
  | false =>
    refine .inr (.inl ⟨hpos, by rw [mkS_cps]; exact hd, ?_⟩)
    refine no (P := False) (fun n hn => ?_) (fun h => h)
    obtain ⟨e, _⟩ := rdI_spec hn
    have := num_last n
    rw [← e, mkS_cps, hd] at this
    cases this
  | true =>
    by_cases hl : 32 < p.length
    · refine .inr (.inr (.inl ⟨hpos, by rw [mkS_cps]; exact hd, by rw [mkS_len]; exact hl, ?_⟩))
      refine no (P := False) (fun n hn => ?_) (fun h => h)
      have := (sec n hn).2
      omega
    · have ht : Tok p := h.resolve_left h0
      obtain ⟨m, hm, hlog⟩ : ∃ m : Int, PySem.intText? (mkS p) = some m ∧ m.natAbs.log2 < 1920 := by
        cases ht with
        | word h1 h2 =>
          have := ld_l (h2 _ (getLastD_mem h1))
          rw [hd] at this
          cases this.1
        | int h1 h2 =>
          have hall : ∀ c ∈ p, 48 ≤ c ∧ c ≤ 57 := fun c hc => isD_iff.mp (h2 c hc)
          exact ⟨_, PySem.intText_digits (x := mkS p) hall h1 (by rw [mkS_len]; omega), digits_small (cs := p) hall (by omega)⟩
        | @neg r h1 h2 =>
          have hall : ∀ c ∈ r, 48 ≤ c ∧ c ≤ 57 := fun c hc => isD_iff.mp (h2 c hc)
          refine ⟨_, PySem.intText_neg (x := mkS (45 :: r)) rfl hall h1 (by rw [mkS_len]; omega), ?_⟩
          rw [Int.natAbs_neg]
          exact digits_small hall (by rw [List.length_cons] at hl; omega)
        | sm h1 =>
          have := sm_cases h1
          simp only [SG, MK, List.cons_append, List.nil_append, List.mem_cons, List.not_mem_nil, or_false] at this
          rcases this with rfl | rfl | rfl | rfl | rfl | rfl | rfl | rfl | rfl | rfl | rfl <;> exact absurd hd (by decide)
      refine .inr (.inr (.inr ⟨m, hpos, by rw [mkS_cps]; exact hd, by rw [mkS_len]; omega, hm, hlog, ?_⟩))
      cases e : rdI p with
      | some n =>
        obtain ⟨e1, e2⟩ := rdI_spec e
        have e3 := (sec n e).1
        rw [hm] at e3
        cases e3
        rw [← e1, decide_eq_true rfl, e2]
        rfl
      | none =>
        cases hb : (decide (((toString m : String) : Str) = mkS p) && inB m) with
        | false => rfl
        | true =>
          rw [Bool.and_eq_true, decide_eq_true_iff] at hb
          have := rdI_num hb.2
          rw [hb.1, mkS_cps, e] at this
          cases this
end
section
variable {P : Program} {w : World} {K : PySem.W.Frag} {mg : Str → Option Value} {base : Heap}
variable {t_BOUND t_DIGITS t_LETTERS t_LONGEST_INTEGER t_LONGEST_NAME : Tok} {a_MARKS a_RESERVED a_SIGNS a_BadName a_BadNumber a_BadText a_Change a_ElseputError a_Reader a_TooLarge : Addr}
theorem Rd0.same {K : PySem.W.Frag} {H H' : Hp} {a p : Addr} {num e : Int} {toks : Tks} {i : Nat} (h : Rd0 K H a p num e toks i) (s : Same H H') : Rd0 K H' a p num e toks i := ⟨h.1.bt s, h.2⟩
theorem Rd0.to {K : PySem.W.Frag} {H H' : Hp} {a p : Addr} {num e : Int} {toks : Tks} {i j : Nat} (h : Rd0 K H a p num e toks i) (r : RdAt K H' a p num e toks j) : Rd0 K H' a p num e toks j := ⟨r, h.2⟩
theorem Took.same {K : PySem.W.Frag} {H H1 : Hp} {a p : Addr} {num e : Int} {toks : Tks} {i : Nat} {v : V} {Q : VK} (h : Took K H a p num e toks i v Q) (s : Same H H1) : Took K H1 a p num e toks i v Q := ⟨h.1, fun H' b r => h.2 H' ((Bt.same s).trans b) r⟩
theorem BadAt.same {K : PySem.W.Frag} {H H1 : Hp} {num col : Int} {E : XK} (h : BadAt K H num col E) (s : Same H H1) : BadAt K H1 num col E := fun C d H' hC s2 nd hd => h C d H' hC (s.trans s2) (Same.free s nd) hd
def sp_Reader_take_name (K : PySem.W.Frag) : Sp := fun vs H Q E => ∃ (a p : Addr) (num e : Int) (toks : Tks) (i : Nat), vs = [.ref a] ∧ Rd0 K H a p num e toks i ∧ (if isName (mkS (tokAt toks i)) = true then Took K H a p num e toks i (.str (mkS (tokAt toks i))) Q else BadAt K H num (colAt toks e i) E)
theorem len_Reader_take_name {vs : List V} {H : Hp} {Q : VK} {E : XK} (h : sp_Reader_take_name K vs H Q E) : vs.length = 1 := by
  obtain ⟨_, _, _, _, _, _, rfl, _⟩ := h
  rfl
theorem ok_Reader_take_name {f : Addr} {fd : FuncData} {f_is_name : Addr} {fd_is_name : FuncData} {f_Reader__take_if : Addr} {fd_Reader__take_if : FuncData} {f_Reader_ahead : Addr} {fd_Reader_ahead : FuncData} (F : Fun K "take_name" "Reader.take_name" s_Reader_take_name f fd) (T : Gs K mg t_BOUND t_DIGITS t_LETTERS t_LONGEST_INTEGER t_LONGEST_NAME a_MARKS a_RESERVED a_SIGNS a_BadName a_BadNumber a_BadText a_Change a_ElseputError a_Reader a_TooLarge) (c_is_name : Cal P w K mg base CX0 1 "is_name" f_is_name fd_is_name ["text"] (sp_is_name K)) (c_Reader__take_if : CalM P w K mg base (L2.CX P w) 4 a_Reader "_take_if" f_Reader__take_if fd_Reader__take_if ["self", "fits"] (sp_Reader__take_if K)) (c_Reader_ahead : CalM P w K mg base CX0 2 a_Reader "ahead" f_Reader_ahead fd_Reader_ahead ["self"] (sp_Reader_ahead K)) : FnOk P w K mg base (L2.CX P w) 5 f fd ["self"] (sp_Reader_take_name K) := by
  refine F.okX sc_Reader_take_name (fun vs H Q E h => len_Reader_take_name h) (fun cdv A outer s H vs Q E hr h => ?_)
  obtain ⟨a, p, num, e, toks, i, rfl, hR0, q⟩ := h
  obtain ⟨C, dx, ts, hC, ha, hp, hts, hi⟩ := id hR0.1
  cases hC.symm.trans T.n_Reader
  refine ⟨_, (pss_one (ps_ret (pe_meth (v_ 0) c_Reader__take_if.cl c_Reader__take_if.me c_Reader__take_if.G (hr.mono (by first | decide | omega)) c_Reader__take_if.b .nil (passes_call (takes_of rfl rfl rfl rfl) (fun _ _ _ _ h => h)) (pa_cons (pe_call c_is_name.G (hr.mono (by first | decide | omega)) rfl c_is_name.m c_is_name.kp c_is_name.b .nil pass0 (pa_cons (pe_meth0 (v_ 0) c_Reader_ahead.cl c_Reader_ahead.me c_Reader_ahead.G (hr.mono (by first | decide | omega)) c_Reader_ahead.b .nil pass0) pa_nil)) pa_nil)))), ?_⟩
  refine ⟨a, dx, _, rfl, ha, rfl, a, dx, _, rfl, ha, rfl, a, p, num, e, toks, i, rfl, hR0.1, _, rfl, by rw [mkS_len]; exact tokAt_le hR0.2.1, fun H1 s1 => ?_⟩
  refine ⟨a, p, num, e, toks, i, _, rfl, hR0.same s1, ?_⟩
  split
  · rename_i hn
    rw [if_pos hn] at q
    exact q.same s1
  · rename_i hn
    rw [if_neg hn] at q
    exact q.same s1
def sp_Reader_take_one (K : PySem.W.Frag) : Sp := fun vs H Q E => ∃ (a p w : Addr) (num e : Int) (toks : Tks) (i : Nat) (zs : List Str), vs = [.ref a, .ref w] ∧ Rd0 K H a p num e toks i ∧ H w = some (.tup (zs.map V.str)) ∧ (if mkS (tokAt toks i) ∈ zs then Took K H a p num e toks i (.str (mkS (tokAt toks i))) Q else BadAt K H num (colAt toks e i) E)
theorem len_Reader_take_one {vs : List V} {H : Hp} {Q : VK} {E : XK} (h : sp_Reader_take_one K vs H Q E) : vs.length = 2 := by
  obtain ⟨_, _, _, _, _, _, _, _, rfl, _⟩ := h
  rfl
theorem ok_Reader_take_one {f : Addr} {fd : FuncData} {f_Reader__take_if : Addr} {fd_Reader__take_if : FuncData} {f_Reader_ahead : Addr} {fd_Reader_ahead : FuncData} (F : Fun K "take_one" "Reader.take_one" s_Reader_take_one f fd) (T : Gs K mg t_BOUND t_DIGITS t_LETTERS t_LONGEST_INTEGER t_LONGEST_NAME a_MARKS a_RESERVED a_SIGNS a_BadName a_BadNumber a_BadText a_Change a_ElseputError a_Reader a_TooLarge) (c_Reader__take_if : CalM P w K mg base (L2.CX P w) 4 a_Reader "_take_if" f_Reader__take_if fd_Reader__take_if ["self", "fits"] (sp_Reader__take_if K)) (c_Reader_ahead : CalM P w K mg base CX0 2 a_Reader "ahead" f_Reader_ahead fd_Reader_ahead ["self"] (sp_Reader_ahead K)) : FnOk P w K mg base (L2.CX P w) 5 f fd ["self", "words"] (sp_Reader_take_one K) := by
  refine F.okX sc_Reader_take_one (fun vs H Q E h => len_Reader_take_one h) (fun cdv A outer s H vs Q E hr h => ?_)
  obtain ⟨a, p, w, num, e, toks, i, zs, rfl, hR0, hw, q⟩ := h
  obtain ⟨C, dx, ts, hC, ha, hp, hts, hi⟩ := id hR0.1
  cases hC.symm.trans T.n_Reader
  refine ⟨_, (pss_one (ps_ret (pe_meth (v_ 0) c_Reader__take_if.cl c_Reader__take_if.me c_Reader__take_if.G (hr.mono (by first | decide | omega)) c_Reader__take_if.b .nil (passes_call (takes_of rfl rfl rfl rfl) (fun _ _ _ _ h => h)) (pa_cons (pe_c (inK K) (pe_meth0 (v_ 0) c_Reader_ahead.cl c_Reader_ahead.me c_Reader_ahead.G (hr.mono (by first | decide | omega)) c_Reader_ahead.b .nil pass0) (v_ 1)) pa_nil)))), ?_⟩
  refine ⟨a, dx, _, rfl, ha, rfl, a, dx, _, rfl, ha, rfl, a, p, num, e, toks, i, rfl, hR0.1, ?_⟩
  refine ⟨_, .inr (SqT.of hw), rfl, flat_strs, ?_⟩
  refine ⟨a, p, num, e, toks, i, decide (mkS (tokAt toks i) ∈ zs), ?_, hR0, ?_⟩
  · show [V.ref a, V.bl (inV (.str (mkS (tokAt toks i))) (zs.map V.str))] = _
    rw [inV_str]
  · split
    · rename_i hn
      rw [if_pos (of_decide_eq_true hn)] at q
      exact q
    · rename_i hn
      rw [if_neg (fun h => hn (decide_eq_true h))] at q
      exact q
def sp_Reader_take_integer (K : PySem.W.Frag) : Sp := fun vs H Q E => ∃ (a p : Addr) (num e : Int) (toks : Tks) (i : Nat), vs = [.ref a] ∧ Rd0 K H a p num e toks i ∧ TokE (tokAt toks i) ∧ (match rdI (tokAt toks i) with
  | some n => Took K H a p num e toks i (.int n) Q
  | none => BadAt K H num (colAt toks e i) E)
theorem len_Reader_take_integer {vs : List V} {H : Hp} {Q : VK} {E : XK} (h : sp_Reader_take_integer K vs H Q E) : vs.length = 1 := by
  obtain ⟨_, _, _, _, _, _, rfl, _⟩ := h
  rfl
theorem ok_Reader_take_integer {f : Addr} {fd : FuncData} {f_is_integer : Addr} {fd_is_integer : FuncData} {f_Reader__take_if : Addr} {fd_Reader__take_if : FuncData} {f_Reader_ahead : Addr} {fd_Reader_ahead : FuncData} (F : Fun K "take_integer" "Reader.take_integer" s_Reader_take_integer f fd) (T : Gs K mg t_BOUND t_DIGITS t_LETTERS t_LONGEST_INTEGER t_LONGEST_NAME a_MARKS a_RESERVED a_SIGNS a_BadName a_BadNumber a_BadText a_Change a_ElseputError a_Reader a_TooLarge) (c_is_integer : Cal P w K mg base CX0 2 "is_integer" f_is_integer fd_is_integer ["token"] (sp_is_integer K)) (c_Reader__take_if : CalM P w K mg base (L2.CX P w) 4 a_Reader "_take_if" f_Reader__take_if fd_Reader__take_if ["self", "fits"] (sp_Reader__take_if K)) (c_Reader_ahead : CalM P w K mg base CX0 2 a_Reader "ahead" f_Reader_ahead fd_Reader_ahead ["self"] (sp_Reader_ahead K)) : FnOk P w K mg base (L2.CX P w) 5 f fd ["self"] (sp_Reader_take_integer K) := by
  refine F.okX sc_Reader_take_integer (fun vs H Q E h => len_Reader_take_integer h) (fun cdv A outer s H vs Q E hr h => ?_)
  obtain ⟨a, p, num, e, toks, i, rfl, hR0, hT, q⟩ := h
  obtain ⟨C, dx, ts, hC, ha, hp, hts, hi⟩ := id hR0.1
  cases hC.symm.trans T.n_Reader
  refine ⟨_, (pss_one (ps_ret (pe_callTy call_int_str (by rfl) T.z_int (by decide +kernel) (pa_cons (pe_meth (v_ 0) c_Reader__take_if.cl c_Reader__take_if.me c_Reader__take_if.G (hr.mono (by first | decide | omega)) c_Reader__take_if.b .nil (passes_call (takes_of rfl rfl rfl rfl) (fun _ _ _ _ h => h)) (pa_cons (pe_call c_is_integer.G (hr.mono (by first | decide | omega)) rfl c_is_integer.m c_is_integer.kp c_is_integer.b .nil pass0 (pa_cons (pe_meth0 (v_ 0) c_Reader_ahead.cl c_Reader_ahead.me c_Reader_ahead.G (hr.mono (by first | decide | omega)) c_Reader_ahead.b .nil pass0) pa_nil)) pa_nil)) pa_nil)))), ?_⟩
  obtain ⟨hb, hn⟩ := intB_of hT
  refine ⟨a, dx, _, rfl, ha, rfl, a, dx, _, rfl, ha, rfl, a, p, num, e, toks, i, rfl, hR0.1, _, _, rfl, by rw [mkS_len]; exact tokAt_le hR0.2.1, hb, fun H1 s1 => ?_⟩
  refine ⟨a, p, num, e, toks, i, _, rfl, hR0.same s1, ?_⟩
  cases hr : rdI (tokAt toks i) with
  | none =>
    rw [hr] at q
    rw [if_neg (by decide)]
    exact BadAt.same q s1
  | some n =>
    rw [hr] at q
    obtain ⟨h1, h2⟩ := hn n hr
    rw [if_pos (show (some n).isSome = true from rfl)]
    obtain ⟨hlt, q⟩ := Took.same q s1
    exact ⟨hlt, fun H' b r => ⟨_, n, rfl, h1, by rw [mkS_len]; omega, q H' b r⟩⟩
def Inits (K : PySem.W.Frag) (H : Hp) (x : Addr) (z : Str) (num : Int) (Q : VK) (E : XK) : Prop := match splitL z.cps.toList 1 with
  | .ok l => ∀ (H' : Hp) (p : Addr), Bt x H H' → RdAt K H' x p num ((z.length : Int) + 1) l 0 → Q .non H'
  | .error c => BadAt K H num (c : Int) E
def sp_Reader___init__ (K : PySem.W.Frag) : Sp := fun vs H Q E => ∃ (x C dx : Addr) (z : Str) (num : Int), vs = [.ref x, .str z, .int num] ∧ PySem.W.nsIn K mainGlobals "Reader" = some (some (.ref C)) ∧ H x = some (.ins C dx []) ∧ z.length ≤ 20000 ∧ 0 ≤ num ∧ num ≤ 100000 ∧ Inits K H x z num Q E
theorem len_Reader___init__ {vs : List V} {H : Hp} {Q : VK} {E : XK} (h : sp_Reader___init__ K vs H Q E) : vs.length = 3 := by
  obtain ⟨_, _, _, _, _, rfl, _⟩ := h
  rfl
theorem ok_Reader___init__ {f : Addr} {fd : FuncData} {f_split_line : Addr} {fd_split_line : FuncData} (F : FunD K "__init__" "Reader.__init__" (defArgs s_Reader___init__) (defBody s_Reader___init__) (defScope s_Reader___init__) [(.int 1)] [] f fd) (T : Gs K mg t_BOUND t_DIGITS t_LETTERS t_LONGEST_INTEGER t_LONGEST_NAME a_MARKS a_RESERVED a_SIGNS a_BadName a_BadNumber a_BadText a_Change a_ElseputError a_Reader a_TooLarge) (c_split_line : Cal P w K mg base (L2.CX P w) 3 "split_line" f_split_line fd_split_line ["line", "number"] (sp_split_line K)) : FnOk P w K mg base (L2.CX P w) 4 f fd ["self", "line", "number"] (sp_Reader___init__ K) := by
  refine F.ok (CX := (L2.CX P w)) sc_Reader___init__ (fun vs H Q E h => len_Reader___init__ h) (fun cdv A outer s H vs Q E hr h => ?_)
  obtain ⟨x, C, dx, z, num, rfl, hC, hx, hz, n0, n1, q⟩ := h
  cases hC.symm.trans T.n_Reader
  refine ⟨_, (pss_cons (ps_fld (v_ 0) (pe_call c_split_line.G (hr.mono (by first | decide | omega)) rfl c_split_line.m c_split_line.kp c_split_line.b .nil (passes_call (takes_of rfl rfl rfl rfl) (fun _ _ _ _ h => h)) (pa_cons (v_ 1) (pa_cons (v_ 2) pa_nil))) (by rfl)) (pss_cons (ps_fld (v_ 0) (v_ 2) (by rfl)) (pss_cons (ps_fld (v_ 0) (pe_op (addK K) (pe_callB (lenK K) (by rfl) T.z_len PySem.boot_len (pa_cons (v_ 1) pa_nil)) pe_int) (by rfl)) (pss_one (ps_fld (v_ 0) pe_int (by rfl)))))), ?_⟩
  refine ⟨z, num, rfl, hz, n0, n1, ?_⟩
  unfold Inits at q
  unfold Splits
  cases hs : splitL z.cps.toList 1 with
  | error c =>
    rw [hs] at q
    exact q
  | ok l =>
    rw [hs] at q
    intro H1 p ts s1 np hp hts
    refine ⟨x, a_Reader, dx, _, rfl, s1 _ _ hx, T.cl_Reader, T.na_Reader__parts, by decide, ?_⟩
    refine ⟨x, a_Reader, dx, _, rfl, upd_same, T.cl_Reader, T.na_Reader__number, (by show 1 < 1000; decide), ?_⟩
    rw [upd_upd]
    refine ⟨line_of (by omega), ?_⟩
    refine ⟨x, a_Reader, dx, _, rfl, upd_same, T.cl_Reader, T.na_Reader__end, (by show 2 < 1000; decide), ?_⟩
    rw [upd_upd]
    refine ⟨x, a_Reader, dx, _, rfl, upd_same, T.cl_Reader, T.na_Reader__at, (by show 3 < 1000; decide), ?_⟩
    rw [upd_upd]
    refine q _ p (fun b o nb hb => by rw [upd_ne nb]; exact s1 _ _ hb) ⟨a_Reader, dx, ts, T.n_Reader, upd_same, ?_, hts.same fun b o ho hb => ?_, Nat.zero_le _⟩
    · rw [upd_ne (ne_of_none hx np).symm]
      exact hp
    · obtain ⟨z', i', rfl⟩ := ho
      rw [upd_ne (ne_of hb (s1 _ _ hx) (by intro e; cases e))]
      exact hb
end
section
variable {P : Program} {w : World} {K : PySem.W.Frag} {mg : Str → Option Value} {base : Heap}
variable {t_BOUND t_DIGITS t_LETTERS t_LONGEST_INTEGER t_LONGEST_NAME : Tok} {a_MARKS a_RESERVED a_SIGNS a_BadName a_BadNumber a_BadText a_Change a_ElseputError a_Reader a_TooLarge : Addr}
/-! ### assignments read -/
def deedOf (p : List Nat) : Option Bool := if mkS p = "add" then some true else if mkS p = "set" then some false else none
theorem deedOf_some {p : List Nat} {b : Bool} (h : deedOf p = some b) : mkS p = deed b ∧ mkS p ∈ (["add", "set"] : List Str) := by
  unfold deedOf at h
  split at h
  · rename_i e
    cases h
    exact ⟨e, by rw [e]; exact List.mem_cons_self⟩
  · split at h
    · rename_i e
      cases h
      exact ⟨e, by rw [e]; exact List.mem_cons_of_mem _ List.mem_cons_self⟩
    · cases h
theorem deedOf_none {p : List Nat} (h : deedOf p = none) : mkS p ∉ (["add", "set"] : List Str) := by
  unfold deedOf at h
  split at h
  · cases h
  · split at h
    · cases h
    · rename_i e1 e2
      intro hm
      simp only [List.mem_cons, List.not_mem_nil, or_false] at hm
      exact hm.elim e1 e2
noncomputable def pA (toks : Tks) (i : Nat) : Except Nat Rw := match deedOf (tokAt toks i) with
  | none => .error i
  | some b => if isName (mkS (tokAt toks (i + 1))) = true then (match rdI (tokAt toks (i + 2)) with
      | none => .error (i + 2)
      | some n => .ok ⟨mkS (tokAt toks (i + 1)), b, n⟩) else .error (i + 1)
def preR (ys : List Rw) (o : Except Nat (List Rw × Nat)) : Except Nat (List Rw × Nat) := match o with
  | .error j => .error j
  | .ok r => .ok (ys ++ r.1, r.2)
theorem preR_pre {ys zs : List Rw} {o : Except Nat (List Rw × Nat)} : preR ys (preR zs o) = preR (ys ++ zs) o := by
  cases o with
  | error j => rfl
  | ok r =>
    show Except.ok _ = Except.ok _
    rw [List.append_assoc]
noncomputable def pL (toks : Tks) : Nat → Nat → Except Nat (List Rw × Nat)
  | 0, i => .ok ([], i)
  | n + 1, i => if tokAt toks i = [44] then (match pA toks (i + 1) with
      | .error j => .error j
      | .ok x => preR [x] (pL toks n (i + 4))) else .ok ([], i)
noncomputable def pAll (toks : Tks) : Except Nat (List Rw × Nat) := match pA toks 0 with
  | .error j => .error j
  | .ok x => preR [x] (pL toks toks.length 3)
theorem pL_stop {toks : Tks} {n i : Nat} (h : tokAt toks i ≠ [44]) : pL toks n i = .ok ([], i) := by
  cases n with
  | zero => rfl
  | succ n => unfold pL; rw [if_neg h]
theorem pL_err {toks : Tks} {n i j : Nat} (h : tokAt toks i = [44]) (hA : pA toks (i + 1) = .error j) : pL toks (n + 1) i = .error j := by
  unfold pL
  rw [if_pos h, hA]
theorem pL_on {toks : Tks} {n i : Nat} {x : Rw} (h : tokAt toks i = [44]) (hA : pA toks (i + 1) = .ok x) : pL toks (n + 1) i = preR [x] (pL toks n (i + 4)) := by
  conv => lhs; unfold pL
  rw [if_pos h, hA]
theorem pAll_err {toks : Tks} {j : Nat} (h : pA toks 0 = .error j) : pAll toks = .error j := by
  unfold pAll
  rw [h]
theorem pAll_on {toks : Tks} {x : Rw} (h : pA toks 0 = .ok x) : pAll toks = preR [x] (pL toks toks.length 3) := by
  unfold pAll
  rw [h]
/-- an error's place, all but the reader standing -/
def BadB (K : PySem.W.Frag) (a : Addr) (H : Hp) (num col : Int) (E : XK) : Prop := ∀ (C d : Addr) (H' : Hp), PySem.W.nsIn K mainGlobals "BadText" = some (some (.ref C)) → Bt a H H' → H d = none → H' d = some (.xd [("column", .int col), ("line", .int num)]) → E (.ref C) (some d) H'
theorem BadB.at {K : PySem.W.Frag} {a : Addr} {H H2 : Hp} {num col : Int} {E : XK} {o : HO} (q : BadB K a H num col E) (b : Bt a H H2) (ha : H2 a = some o) : BadAt K H2 num col E := fun C d H' hC s nd hd =>
  q C d H' hC (b.trans (Bt.same s)) (b.free (ne_of_none ha nd).symm nd) hd
theorem BadB.bt {K : PySem.W.Frag} {a : Addr} {H H2 : Hp} {num col : Int} {E : XK} (q : BadB K a H num col E) (b : Bt a H H2) (ha : ∃ o, H2 a = some o) : ∀ (C d : Addr) (H' : Hp), PySem.W.nsIn K mainGlobals "BadText" = some (some (.ref C)) → Bt a H2 H' → H2 d = none → H' d = some (.xd [("column", .int col), ("line", .int num)]) → E (.ref C) (some d) H' := fun C d H' hC s nd hd => by
  obtain ⟨o, ha⟩ := ha
  exact q C d H' hC (b.trans s) (b.free (ne_of_none ha nd).symm nd) hd
def RowOk (x : Rw) : Prop := isName x.f = true ∧ x.f.length ≤ 1000 ∧ inB x.n = true
theorem pA_ok {toks : Tks} {i : Nat} {x : Rw} (h : pA toks i = .ok x) : RowOk x := by
  unfold pA at h
  split at h
  · cases h
  · split at h
    · rename_i hn
      split at h
      · cases h
      · rename_i n hr
        cases h
        refine ⟨hn, ?_, (rdI_spec hr).2⟩
        unfold isName at hn
        split at hn
        · cases hn
        · rename_i hc
          rw [Bool.not_eq_true, Bool.or_eq_false_iff, Bool.or_eq_false_iff, decide_eq_false_iff_not, decide_eq_false_iff_not] at hc
          show (mkS (tokAt toks (i + 1))).length ≤ 1000
          omega
    · cases h
theorem pA_e0 {toks : Tks} {i : Nat} (hd : deedOf (tokAt toks i) = none) : pA toks i = .error i := by
  unfold pA
  rw [hd]
theorem pA_e1 {toks : Tks} {i : Nat} {b : Bool} (hd : deedOf (tokAt toks i) = some b) (hn : ¬ isName (mkS (tokAt toks (i + 1))) = true) : pA toks i = .error (i + 1) := by
  unfold pA
  rw [hd]
  exact if_neg hn
theorem pA_e2 {toks : Tks} {i : Nat} {b : Bool} (hd : deedOf (tokAt toks i) = some b) (hn : isName (mkS (tokAt toks (i + 1))) = true) (hr : rdI (tokAt toks (i + 2)) = none) : pA toks i = .error (i + 2) := by
  unfold pA
  rw [hd]
  show (if _ then _ else _ : Except Nat Rw) = _
  rw [if_pos hn, hr]
theorem pA_e3 {toks : Tks} {i : Nat} {b : Bool} {n : Int} (hd : deedOf (tokAt toks i) = some b) (hn : isName (mkS (tokAt toks (i + 1))) = true) (hr : rdI (tokAt toks (i + 2)) = some n) : pA toks i = .ok ⟨mkS (tokAt toks (i + 1)), b, n⟩ := by
  unfold pA
  rw [hd]
  show (if _ then _ else _ : Except Nat Rw) = _
  rw [if_pos hn, hr]
def Assig (K : PySem.W.Frag) (H : Hp) (a p : Addr) (num e : Int) (toks : Tks) (i : Nat) (Q : VK) (E : XK) : Prop := match pA toks i with
  | .error j => BadB K a H num (colAt toks e j) E
  | .ok x => ∀ (H' : Hp) (r : Addr), Bt a H H' → H r = none → RdAt K H' a p num e toks (i + 3) → RowAt H' r x → Q (.ref r) H'
def sp_parse_assignment (K : PySem.W.Frag) : Sp := fun vs H Q E => ∃ (a p : Addr) (num e : Int) (toks : Tks) (i : Nat), vs = [.ref a] ∧ Rd0 K H a p num e toks i ∧ (∀ j, TokE (tokAt toks j)) ∧ Assig K H a p num e toks i Q E
theorem len_parse_assignment {vs : List V} {H : Hp} {Q : VK} {E : XK} (h : sp_parse_assignment K vs H Q E) : vs.length = 1 := by
  obtain ⟨_, _, _, _, _, _, rfl, _⟩ := h
  rfl
theorem ok_parse_assignment {f : Addr} {fd : FuncData} {f_Reader_take_one : Addr} {fd_Reader_take_one : FuncData} {f_Reader_take_name : Addr} {fd_Reader_take_name : FuncData} {f_Reader_take_integer : Addr} {fd_Reader_take_integer : FuncData} (F : Fun K "parse_assignment" "parse_assignment" s_parse_assignment f fd) (T : Gs K mg t_BOUND t_DIGITS t_LETTERS t_LONGEST_INTEGER t_LONGEST_NAME a_MARKS a_RESERVED a_SIGNS a_BadName a_BadNumber a_BadText a_Change a_ElseputError a_Reader a_TooLarge) (c_Reader_take_one : CalM P w K mg base (L2.CX P w) 5 a_Reader "take_one" f_Reader_take_one fd_Reader_take_one ["self", "words"] (sp_Reader_take_one K)) (c_Reader_take_name : CalM P w K mg base (L2.CX P w) 5 a_Reader "take_name" f_Reader_take_name fd_Reader_take_name ["self"] (sp_Reader_take_name K)) (c_Reader_take_integer : CalM P w K mg base (L2.CX P w) 5 a_Reader "take_integer" f_Reader_take_integer fd_Reader_take_integer ["self"] (sp_Reader_take_integer K)) : FnOk P w K mg base (L2.CX P w) 6 f fd ["reader"] (sp_parse_assignment K) := by
  refine F.okX sc_parse_assignment (fun vs H Q E h => len_parse_assignment h) (fun cdv A outer s H vs Q E hr h => ?_)
  obtain ⟨a, p, num, e, toks, i, rfl, hR0, hT, q⟩ := h
  obtain ⟨C, dx, ts, hC, ha, hp, hts, hi⟩ := id hR0.1
  cases hC.symm.trans T.n_Reader
  refine ⟨_, (pss_cons (ps_set (i := 1) sc_parse_assignment.nd rfl (.inl rfl) (pe_meth (v_ 0) c_Reader_take_one.cl c_Reader_take_one.me c_Reader_take_one.G (hr.mono (by first | decide | omega)) c_Reader_take_one.b .nil (passes_call (takes_of rfl rfl rfl rfl) (fun _ _ _ _ h => h)) (pa_cons (pe_tup (pa_cons pe_str (pa_cons pe_str pa_nil))) pa_nil))) (pss_cons (ps_set (i := 2) sc_parse_assignment.nd rfl (.inl rfl) (pe_meth0 (v_ 0) c_Reader_take_name.cl c_Reader_take_name.me c_Reader_take_name.G (hr.mono (by first | decide | omega)) c_Reader_take_name.b .nil (passes_call (takes_of rfl rfl rfl rfl) (fun _ _ _ _ h => h)))) (pss_one (ps_ret (pe_tup (pa_cons (v_ 2) (pa_cons (v_ 1) (pa_cons (pe_meth0 (v_ 0) c_Reader_take_integer.cl c_Reader_take_integer.me c_Reader_take_integer.G (hr.mono (by first | decide | omega)) c_Reader_take_integer.b .nil (passes_call (takes_of rfl rfl rfl rfl) (fun _ _ _ _ h => h))) pa_nil)))))))), ?_⟩
  unfold Assig at q
  refine ⟨a, dx, _, rfl, ha, rfl, (by show 2 ≤ sizeLine; decide), fun t nt => ?_⟩
  have s1 := same_new (o := .tup [.str "add", .str "set"]) nt
  have ha1 := s1 _ _ ha
  refine ⟨a, p, t, num, e, toks, i, ["add", "set"], rfl, hR0.same s1, upd_same, ?_⟩
  cases hd : deedOf (tokAt toks i) with
  | none =>
    rw [pA_e0 hd] at q
    rw [if_neg (deedOf_none hd)]
    exact BadB.at q (Bt.same s1) ha1
  | some b =>
    obtain ⟨hde, hmem⟩ := deedOf_some hd
    rw [if_pos hmem]
    have hlt : i < toks.length := tokAt_lt fun h => by
      rw [h] at hd
      exact absurd hd (by cases b <;> decide +kernel)
    refine ⟨hlt, fun H2 b2 r2 => ?_⟩
    have b02 := (Bt.same (st := a) s1).trans b2
    obtain ⟨C2, dx2, ts2, hC2, ha2, hp2, hts2, hi2⟩ := id r2
    cases hC2.symm.trans T.n_Reader
    refine ⟨a, dx2, _, rfl, ha2, rfl, a, p, num, e, toks, i + 1, rfl, hR0.to r2, ?_⟩
    by_cases hn : isName (mkS (tokAt toks (i + 1))) = true
    · rw [if_pos hn]
      have hlt2 : i + 1 < toks.length := tokAt_lt fun h => by
        rw [h] at hn
        exact absurd hn (by decide +kernel)
      refine ⟨hlt2, fun H3 b3 r3 => ?_⟩
      have b03 := b02.trans b3
      obtain ⟨C3, dx3, ts3, hC3, ha3, hp3, hts3, hi3⟩ := id r3
      cases hC3.symm.trans T.n_Reader
      refine ⟨a, dx3, _, rfl, ha3, rfl, a, p, num, e, toks, i + 1 + 1, rfl, hR0.to r3, hT _, ?_⟩
      cases hr : rdI (tokAt toks (i + 2)) with
      | none =>
        rw [pA_e2 hd hn hr] at q
        exact BadB.at q b03 ha3
      | some n =>
        rw [pA_e3 hd hn hr] at q
        have hlt3 : i + 2 < toks.length := tokAt_lt fun h => by
          rw [h] at hr
          have := (intB_of (p := []) (.inl rfl)).2 n hr
          exact absurd (rdI_spec hr).1 fun h2 => int_text_ne n (by rw [← h2]; rfl)
        refine ⟨hlt3, fun H4 b4 r4 => ⟨(by show 3 ≤ sizeLine; decide), fun r nr => ?_⟩⟩
        have b04 := b03.trans b4
        obtain ⟨C4, dx4, ts4, hC4, ha4, _⟩ := id r4
        have s4 := same_new (o := .tup [.str (mkS (tokAt toks (i + 1))), .str (mkS (tokAt toks i)), .int n]) nr
        refine q _ r (b04.trans (Bt.same s4)) (b04.free (ne_of_none ha4 nr).symm nr) (r4.bt s4) ?_
        unfold RowAt
        rw [hde]
        exact upd_same
    · rw [pA_e1 hd hn] at q
      rw [if_neg hn]
      exact BadB.at q b02 ha2
end
section
variable {P : Program} {w : World} {K : PySem.W.Frag} {mg : Str → Option Value} {base : Heap}
variable {t_BOUND t_DIGITS t_LETTERS t_LONGEST_INTEGER t_LONGEST_NAME : Tok} {a_MARKS a_RESERVED a_SIGNS a_BadName a_BadNumber a_BadText a_Change a_ElseputError a_Reader a_TooLarge : Addr}
theorem pre_ok {ys : List Rw} {o : Except Nat (List Rw × Nat)} {r : List Rw × Nat} (h : preR ys o = .ok r) : ∃ r2, o = .ok r2 ∧ r = (ys ++ r2.1, r2.2) := by
  cases o with
  | error j => cases h
  | ok r2 => cases h; exact ⟨r2, rfl, rfl⟩
theorem pL_len {toks : Tks} : ∀ {n i : Nat} {r : List Rw × Nat}, pL toks n i = .ok r → r.1.length ≤ n ∧ ∀ x ∈ r.1, RowOk x
  | 0, i, r, h => by
    cases h
    exact ⟨Nat.le_refl _, fun _ h => nomatch h⟩
  | n + 1, i, r, h => by
    by_cases hc : tokAt toks i = [44]
    · cases hA : pA toks (i + 1) with
      | error j => rw [pL_err hc hA] at h; cases h
      | ok x =>
        rw [pL_on hc hA] at h
        obtain ⟨r2, h2, rfl⟩ := pre_ok h
        obtain ⟨h1, h3⟩ := pL_len h2
        refine ⟨by show (x :: r2.1).length ≤ n + 1; rw [List.length_cons]; omega, fun y hy => ?_⟩
        rcases List.mem_cons.mp hy with rfl | hy
        · exact pA_ok hA
        · exact h3 y hy
    · rw [pL_stop hc] at h
      cases h
      exact ⟨Nat.zero_le _, fun _ h => nomatch h⟩
theorem pAll_ok {toks : Tks} {r : List Rw × Nat} (h : pAll toks = .ok r) : r.1.length ≤ toks.length + 1 ∧ ∀ x ∈ r.1, RowOk x := by
  cases hA : pA toks 0 with
  | error j => rw [pAll_err hA] at h; cases h
  | ok x =>
    rw [pAll_on hA] at h
    obtain ⟨r2, h2, rfl⟩ := pre_ok h
    obtain ⟨h1, h3⟩ := pL_len h2
    refine ⟨by show (x :: r2.1).length ≤ _; rw [List.length_cons]; omega, fun y hy => ?_⟩
    rcases List.mem_cons.mp hy with rfl | hy
    · exact pA_ok hA
    · exact h3 y hy
def AsRes (K : PySem.W.Frag) (H : Hp) (a p : Addr) (num e : Int) (toks : Tks) (Q : VK) (E : XK) (o : Except Nat (List Rw × Nat)) : Prop := match o with
  | .error j => BadB K a H num (colAt toks e j) E
  | .ok r => ∀ (H' : Hp) (L : Addr) (rs : List Addr), Bt a H H' → H L = none → RdAt K H' a p num e toks r.2 → H' L = some (.lst (rs.map V.ref)) → RowsL H' rs r.1 → Q (.ref L) H'
def sp_parse_assignments (K : PySem.W.Frag) : Sp := fun vs H Q E => ∃ (a p : Addr) (num e : Int) (toks : Tks), vs = [.ref a] ∧ Rd0 K H a p num e toks 0 ∧ (∀ j, TokE (tokAt toks j)) ∧ toks.length ≤ 20000 ∧ AsRes K H a p num e toks Q E (pAll toks)
theorem len_parse_assignments {vs : List V} {H : Hp} {Q : VK} {E : XK} (h : sp_parse_assignments K vs H Q E) : vs.length = 1 := by
  obtain ⟨_, _, _, _, _, rfl, _⟩ := h
  rfl
theorem comma_cps : ("," : Str).cps.toList = [44] := by decide +kernel
theorem ok_parse_assignments {f : Addr} {fd : FuncData} {f_parse_assignment : Addr} {fd_parse_assignment : FuncData} {f_Reader_skip : Addr} {fd_Reader_skip : FuncData} (F : Fun K "parse_assignments" "parse_assignments" s_parse_assignments f fd) (T : Gs K mg t_BOUND t_DIGITS t_LETTERS t_LONGEST_INTEGER t_LONGEST_NAME a_MARKS a_RESERVED a_SIGNS a_BadName a_BadNumber a_BadText a_Change a_ElseputError a_Reader a_TooLarge) (c_parse_assignment : Cal P w K mg base (L2.CX P w) 6 "parse_assignment" f_parse_assignment fd_parse_assignment ["reader"] (sp_parse_assignment K)) (c_Reader_skip : CalM P w K mg base CX0 3 a_Reader "skip" f_Reader_skip fd_Reader_skip ["self", "token"] (sp_Reader_skip K)) : FnOk P w K mg base (L2.CX P w) 7 f fd ["reader"] (sp_parse_assignments K) := by
  refine F.okX sc_parse_assignments (fun vs H Q E h => len_parse_assignments h) (fun cdv A outer s H vs Q E hr h => ?_)
  obtain ⟨a, p, num, e, toks, rfl, hR0, hT, hlen, q⟩ := h
  obtain ⟨C, dx, ts, hC, ha, hp, hts, hi⟩ := id hR0.1
  cases hC.symm.trans T.n_Reader
  refine ⟨_, (pss_cons (ps_set (i := 1) sc_parse_assignments.nd rfl (.inl rfl) (pe_lst (pa_cons (pe_call c_parse_assignment.G (hr.mono (by first | decide | omega)) rfl c_parse_assignment.m c_parse_assignment.kp c_parse_assignment.b .nil (passes_call (takes_of rfl rfl rfl rfl) (fun _ _ _ _ h => h)) (pa_cons (v_ 0) pa_nil)) pa_nil))) (pss_cons (ps_while (passes_of rfl) (pt_t K (pe_meth (v_ 0) c_Reader_skip.cl c_Reader_skip.me c_Reader_skip.G (hr.mono (by first | decide | omega)) c_Reader_skip.b .nil pass0 (pa_cons pe_str pa_nil))) (pss_one (ps_expr (pe_bm PySem.F.plainAttrs_list PySem.F.slot_list_append PySem.F.type_list_append mt_append (v_ 1) (pa_cons (pe_call c_parse_assignment.G (hr.mono (by first | decide | omega)) rfl c_parse_assignment.m c_parse_assignment.kp c_parse_assignment.b .nil (passes_call (takes_of rfl rfl rfl rfl) (fun _ _ _ _ h => h)) (pa_cons (v_ 0) pa_nil)) pa_nil))))) (pss_one (ps_ret (v_ 1))))), ?_⟩
  refine ⟨a, p, num, e, toks, 0, rfl, hR0, hT, ?_⟩
  unfold Assig
  cases hA : pA toks 0 with
  | error j =>
    rw [pAll_err hA] at q
    exact q
  | ok x =>
    intro H1 r b1 nr r1 hrow
    refine ⟨(by show 1 ≤ sizeLine; decide), fun L nL => ?_⟩
    have sL := same_new (o := .lst [.ref r]) nL
    obtain ⟨C1, dx1, ts1, hC1, ha1, _⟩ := id r1
    have La : a ≠ L := ne_of_none ha1 nL
    have L0 : H L = none := b1.free La.symm nL
    have Ls : L ≠ a := La.symm
    refine ⟨fun n σ' H' => ∃ (i : Nat) (ys : List Rw) (rs : List Addr), σ' = [some (.ref a), some (.ref L)] ∧ (∀ b o, b ≠ a → b ≠ L → H b = some o → H' b = some o) ∧ RdAt K H' a p num e toks i ∧ H' L = some (.lst (rs.map V.ref)) ∧ RowsL H' rs ys ∧ ys.length + n ≤ toks.length + 1 ∧ toks.length ≤ i + n ∧
      pAll toks = preR ys (pL toks n i), ⟨toks.length, 3, [x], [r], rfl, fun b o n1 n2 hb => sL _ _ (b1 b o n1 hb), r1.bt sL, upd_same, ⟨sL _ _ hrow, trivial⟩, ?_, by omega, pAll_on hA⟩, ?_⟩
    · show 1 + toks.length ≤ toks.length + 1
      omega
    rintro n σ' H' ⟨i, ys, rs, rfl, hb, hR, hL, hrs, hyn, hin, heq⟩
    obtain ⟨C2, dx2, ts2, hC2, ha2, hp2, hts2, hi2⟩ := id hR
    cases hC2.symm.trans T.n_Reader
    refine ⟨a, dx2, _, rfl, ha2, rfl, a, p, num, e, toks, i, ",", rfl, hR, by rw [comma_cps]; decide, ?_⟩
    rw [comma_cps]
    have bt : Bt a H H' := fun b o n1 hb' => hb b o n1 (ne_of_none hb' L0) hb'
    by_cases hc : tokAt toks i = [44]
    · rw [if_pos hc]
      have hlt : i < toks.length := tokAt_lt (by rw [hc]; decide)
      refine ⟨hlt, fun H2 b2 r2 => ?_⟩
      obtain ⟨C3, dx3, ts3, hC3, ha3, hp3, _⟩ := id r2
      have hL2 := b2 _ _ Ls hL
      have hrs2 : RowsL H2 rs ys := hrs.keep fun c z hc => b2 _ _ (ne_of hc ha2 (by intro e; cases e)) hc
      cases n with
      | zero => omega
      | succ n =>
        refine ⟨fun σ2 H2 => ∃ m', m' < n + 1 ∧ ∃ (i : Nat) (ys : List Rw) (rs : List Addr), σ2 = [some (.ref a), some (.ref L)] ∧ (∀ b o, b ≠ a → b ≠ L → H b = some o → H2 b = some o) ∧ RdAt K H2 a p num e toks i ∧ H2 L = some (.lst (rs.map V.ref)) ∧ RowsL H2 rs ys ∧ ys.length + m' ≤ toks.length + 1 ∧ toks.length ≤ i + m' ∧
          pAll toks = preR ys (pL toks m' i), fun _ _ h => h, ?_⟩
        refine ⟨.inl ⟨rfl, _, SqL.of hL2⟩, a, p, num, e, toks, i + 1, rfl, hR0.to r2, hT, ?_⟩
        unfold Assig
        cases hA2 : pA toks (i + 1) with
        | error j =>
          rw [pL_err hc hA2] at heq
          rw [heq] at q
          exact BadB.bt (show BadB K a H num (colAt toks e j) E from q) (bt.trans b2) ⟨_, ha3⟩
        | ok y =>
          rw [pL_on hc hA2, preR_pre] at heq
          intro H3 r3 b3 nr3 rd3 hrow3
          have hL3 := b3 _ _ Ls hL2
          have hrs3 : RowsL H3 rs ys := hrs2.keep fun c z hc => b3 _ _ (ne_of hc ha3 (by intro e; cases e)) hc
          have hrl : rs.length ≤ 30000 := by rw [hrs.len]; omega
          refine ⟨L, _, _, rfl, rfl, hL3, line_lt (by rw [List.length_map]; omega), ?_⟩
          have kt : ∀ c z, H3 c = some (.tup z) → (upd H3 L (.lst (rs.map V.ref ++ [.ref r3]))) c = some (.tup z) := fun c z hc => by
            rw [upd_ne (ne_of hc hL3 (by intro e; cases e))]
            exact hc
          refine ⟨n, by omega, i + 4, ys ++ [y], rs ++ [r3], rfl, fun b o n1 n2 hb' => ?_, ?_, by rw [upd_same, List.map_append]; rfl, (hrs3.keep kt).app ⟨kt _ _ hrow3, trivial⟩, by rw [List.length_append]; show ys.length + 1 + n ≤ _; omega, by omega, heq⟩
          · rw [upd_ne n2]
            exact b3 _ _ n1 (b2 _ _ n1 (hb b o n1 n2 hb'))
          · obtain ⟨C4, dx4, ts4, hC4, ha4, hp4, hts4, hi4⟩ := rd3
            refine ⟨C4, dx4, ts4, hC4, by rw [upd_ne La]; exact ha4, ?_, hts4.same fun b o ho hb' => ?_, hi4⟩
            · rw [upd_ne]
              · exact hp4
              · intro e2
                rw [e2, L0] at hp
                cases hp
            · obtain ⟨z', n', rfl⟩ := ho
              exact kt _ _ hb'
    · rw [if_neg hc]
      rw [pL_stop hc] at heq
      rw [heq] at q
      refine q H' L rs bt L0 hR hL ?_
      rw [List.append_nil]
      exact hrs
end
section
variable {P : Program} {w : World} {K : PySem.W.Frag} {mg : Str → Option Value} {base : Heap}
variable {t_BOUND t_DIGITS t_LETTERS t_LONGEST_INTEGER t_LONGEST_NAME : Tok} {a_MARKS a_RESERVED a_SIGNS a_BadName a_BadNumber a_BadText a_Change a_ElseputError a_Reader a_TooLarge : Addr}
/-! ### the change that a line tells -/
def foldJ : List Rw → List Rw → Option (List Rw)
  | acc, [] => some acc
  | acc, x :: r => if (joinedR acc [x]).length ≤ 3 then foldJ (joinedR acc [x]) r else none
theorem foldJ_cons {acc : List Rw} {x : Rw} {r : List Rw} : foldJ acc (x :: r) = if (joinedR acc [x]).length ≤ 3 then foldJ (joinedR acc [x]) r else none := rfl
def TooBig (K : PySem.W.Frag) (H : Hp) (E : XK) : Prop := ∀ (C d : Addr) (H' : Hp), PySem.W.nsIn K mainGlobals "TooLarge" = some (some (.ref C)) → Same H H' → H d = none → H' d = some (.xd [("most", .int 3)]) → E (.ref C) (some d) H'
def Builds (K : PySem.W.Frag) (H : Hp) (o : Option (List Rw)) (Q : VK) (E : XK) : Prop := match o with
  | some ys => ∀ (H' : Hp) (a : Addr), Same H H' → ChAt K H' a ys → Q (.ref a) H'
  | none => TooBig K H E
def sp_build_change (K : PySem.W.Frag) : Sp := fun vs H Q E => ∃ (l : Addr) (rs : List Addr) (xs : List Rw), vs = [.ref l] ∧ H l = some (.lst (rs.map V.ref)) ∧ RowsL H rs xs ∧ (∀ x ∈ xs, RowOk x) ∧ Builds K H (foldJ [] xs) Q E
theorem len_build_change {vs : List V} {H : Hp} {Q : VK} {E : XK} (h : sp_build_change K vs H Q E) : vs.length = 1 := by
  obtain ⟨_, _, _, rfl, _⟩ := h
  rfl
theorem inB_bd {i : Int} (h : inB i = true) : -1000000000000000000000000000000 ≤ i ∧ i ≤ 1000000000000000000000000000000 := by
  unfold inB at h
  rw [Bool.and_eq_true, decide_eq_true_iff, decide_eq_true_iff] at h
  exact h
theorem ok_build_change {f : Addr} {fd : FuncData} {f_Change_none : Addr} {fd_Change_none : FuncData} {p_Change_none : Addr} {f_Change_adding : Addr} {fd_Change_adding : FuncData} {p_Change_adding : Addr} {f_Change_setting : Addr} {fd_Change_setting : FuncData} {p_Change_setting : Addr} {f_Change___rshift__ : Addr} {fd_Change___rshift__ : FuncData} (F : Fun K "build_change" "build_change" s_build_change f fd) (T : Gs K mg t_BOUND t_DIGITS t_LETTERS t_LONGEST_INTEGER t_LONGEST_NAME a_MARKS a_RESERVED a_SIGNS a_BadName a_BadNumber a_BadText a_Change a_ElseputError a_Reader a_TooLarge) (c_Change_none : CalS P w K mg base CX0 3 a_Change p_Change_none "none" f_Change_none fd_Change_none [] (sp_Change_none K)) (c_Change_adding : CalS P w K mg base CX0 4 a_Change p_Change_adding "adding" f_Change_adding fd_Change_adding ["field", "number"] (sp_Change_adding K)) (c_Change_setting : CalS P w K mg base CX0 4 a_Change p_Change_setting "setting" f_Change_setting fd_Change_setting ["field", "number"] (sp_Change_setting K)) (c_Change___rshift__ : CalO P w K mg base (L2.CX P w) 3 a_Change .RShift f_Change___rshift__ fd_Change___rshift__ ["self", "other"] (sp_Change___rshift__ K)) : FnOk P w K mg base (L2.CX P w) 5 f fd ["parsed"] (sp_build_change K) := by
  refine F.okX sc_build_change (fun vs H Q E h => len_build_change h) (fun cdv A outer s H vs Q E hr h => ?_)
  obtain ⟨l, rs, xs, rfl, hl, hrs, hok, q⟩ := h
  refine ⟨_, (pss_cons (ps_set (i := 1) sc_build_change.nd rfl (.inl rfl) (pe_smeth0 (pe_glob (v := .ref a_Change) rfl T.g_Change rfl) c_Change_none.rd c_Change_none.sm c_Change_none.G (hr.mono (by first | decide | omega)) c_Change_none.b pass0)) (pss_cons (ps_for (passes_of rfl) rfl (pi_list (v_ 0)) (pg_tup (by rfl) (pgs_cons (pg_name (i := 2) sc_build_change.nd rfl (.inl rfl)) (pgs_cons (pg_name (i := 3) sc_build_change.nd rfl (.inl rfl)) (pgs_cons (pg_name (i := 4) sc_build_change.nd rfl (.inl rfl)) pgs_nil)))) (pss_cons (ps_set (i := 5) sc_build_change.nd rfl (.inl rfl) (pe_ifExp (pt_c (eqK K hr.units) (v_ 3) pe_str) (pe_smeth (pe_glob (v := .ref a_Change) rfl T.g_Change rfl) c_Change_adding.rd c_Change_adding.sm c_Change_adding.G (hr.mono (by first | decide | omega)) c_Change_adding.b pass0 (pa_cons (v_ 2) (pa_cons (v_ 4) pa_nil))) (pe_smeth (pe_glob (v := .ref a_Change) rfl T.g_Change rfl) c_Change_setting.rd c_Change_setting.sm c_Change_setting.G (hr.mono (by first | decide | omega)) c_Change_setting.b pass0 (pa_cons (v_ 2) (pa_cons (v_ 4) pa_nil))))) (pss_one (ps_set (i := 1) sc_build_change.nd rfl (.inl rfl) (pe_op (op_own c_Change___rshift__.op c_Change___rshift__.G (hr.mono (by first | decide | omega)) c_Change___rshift__.b (passes_call (takes_of rfl rfl rfl rfl) (fun _ _ _ _ h => h))) (v_ 1) (v_ 5)))))) (pss_one (ps_ret (v_ 1))))), ?_⟩
  refine ⟨rfl, rfl, fun H1 a s1 na hA => ?_⟩
  refine ⟨l, rfl, ⟨_, SqL.of (s1 _ _ hl)⟩, ?_⟩
  refine for_list (K := K) (a := l) (xs := rs.map V.ref) (fun i σ' H2 => ∃ (a : Addr) (acc : List Rw) (y z w v : Option V), σ' = [some (.ref l), some (.ref a), y, z, w, v] ∧ Same H H2 ∧ ChAt K H2 a acc ∧ acc.length ≤ 3 ∧ foldJ [] xs = foldJ acc (xs.drop i)) ⟨a, [], _, _, _, _, rfl, s1, hA, by decide, rfl⟩ (fun i σ' H2 _ ⟨_, _, _, _, _, _, _, h, _⟩ => SqL.of (h _ _ hl)) ?_ ?_
  · rintro i v σ' H2 hi ⟨a, acc, y, z, w, u, rfl, sm, hA, hal, hf⟩
    rw [List.getElem?_map] at hi
    obtain ⟨k, hk, rfl⟩ := Option.map_eq_some_iff.mp hi
    obtain ⟨x, hx, hax⟩ := hrs.get hk
    obtain ⟨g1, g2, g3⟩ := hok x (List.mem_of_getElem? hx)
    obtain ⟨g4, g5⟩ := inB_bd g3
    have hat := sm _ _ hax
    have hd : xs.drop i = x :: xs.drop (i + 1) := by
      obtain ⟨h1, h2⟩ := List.getElem?_eq_some_iff.mp hx
      rw [List.drop_eq_getElem_cons h1, h2]
    rw [hd] at hf
    obtain ⟨C, dx, t, us, hC, ha, _⟩ := id hA
    cases hC.symm.trans T.n_Change
    refine ⟨k, _, rfl, .inl (.inl hat), rfl, _, _, rfl, _, _, rfl, _, _, rfl, rfl, ?_⟩
    have fin : ∀ {H3 : Hp} {b : Addr}, Same H2 H3 → ChAt K H3 b [x] → rOwn a_Change (sp_Change___rshift__ K) E (.ref a) (.ref b) H3 fun v H4 => ∃ (a : Addr) (acc : List Rw) (y z w u : Option V), [some (V.ref l), some v, some (V.str x.f), some (V.str (deed x.add)), some (V.int x.n), some (V.ref b)] = [some (V.ref l), some (V.ref a), y, z, w, u] ∧ Same H H4 ∧ ChAt K H4 a acc ∧ acc.length ≤ 3 ∧ foldJ [] xs = foldJ acc (xs.drop (i + 1)) := fun {H3 b} s3 hb => by
      obtain ⟨C2, dy, t2, us2, hC2, hb2, _⟩ := id hb
      cases hC2.symm.trans T.n_Change
      refine ⟨a, b, dx, _, dy, _, rfl, rfl, s3 _ _ ha, hb2, a, b, acc, [x], rfl, hA.same s3, hb, by omega, by show 1 ≤ 10; decide, ?_⟩
      unfold Joins
      rw [foldJ_cons] at hf
      by_cases hj : (joinedR acc [x]).length ≤ 3
      · rw [if_pos hj] at hf ⊢
        exact fun H4 a' s4 _ h4 => ⟨a', _, _, _, _, _, rfl, (sm.trans s3).trans s4, h4, hj, hf⟩
      · rw [if_neg hj] at hf ⊢
        rw [hf] at q
        have s02 := sm.trans s3
        exact fun C d H' hC s nd hd => q C d H' hC (s02.trans s) (Same.free s02 nd) hd
    refine ite2 (fun e => ?_) (fun e => ?_)
    · have e : x.add = true := deed_add.symm.trans e
      refine ⟨rfl, _, _, rfl, g2, g1, g4, g5, fun H3 b s3 nb hb => ?_⟩
      have hb : ChAt K H3 b [x] := by
        have : (⟨x.f, true, x.n⟩ : Rw) = x := by rw [← e]
        rw [← this]
        exact hb
      exact fin s3 hb
    · have e : x.add = false := deed_add.symm.trans (Bool.eq_false_iff.mpr e)
      refine ⟨rfl, _, _, rfl, g2, g1, g4, g5, fun H3 b s3 nb hb => ?_⟩
      have hb : ChAt K H3 b [x] := by
        have : (⟨x.f, false, x.n⟩ : Rw) = x := by rw [← e]
        rw [← this]
        exact hb
      exact fin s3 hb
  · rintro σ' H2 ⟨a, acc, y, z, w, v, rfl, sm, hA, hal, hf⟩
    rw [List.length_map, hrs.len, List.drop_length] at hf
    rw [hf] at q
    exact q H2 a sm hA
inductive Out where
  | bad (c : Int)
  | big
  | ok (ys : List Rw)
def bOut (o : Option (List Rw)) : Out := match o with
  | some ys => .ok ys
  | none => .big
noncomputable def tOut (toks : Tks) (e : Int) : Out := if toks.length = 0 then .ok [] else (match pAll toks with
  | .error j => .bad (colAt toks e j)
  | .ok r => if r.2 = toks.length then bOut (foldJ [] r.1) else .bad (colAt toks e r.2))
noncomputable def outOf (z : Str) : Out := match splitL z.cps.toList 1 with
  | .error c => .bad (c : Int)
  | .ok toks => tOut toks ((z.length : Int) + 1)
def ToOut (K : PySem.W.Frag) (H : Hp) (o : Out) (Q : VK) (E : XK) : Prop := match o with
  | .bad c => BadAt K H 1 c E
  | .big => TooBig K H E
  | .ok ys => ∀ (H' : Hp) (a : Addr), Same H H' → ChAt K H' a ys → Q (.ref a) H'
def sp_Change_read (K : PySem.W.Frag) : Sp := fun vs H Q E => ∃ z : Str, vs = [.str z] ∧ z.length ≤ 10000 ∧ (∀ toks, splitL z.cps.toList 1 = .ok toks → TkOk toks ∧ (∀ j, TokE (tokAt toks j)) ∧ toks.length ≤ 20000) ∧ ToOut K H (outOf z) Q E
theorem len_Change_read {vs : List V} {H : Hp} {Q : VK} {E : XK} (h : sp_Change_read K vs H Q E) : vs.length = 1 := by
  obtain ⟨_, rfl, _⟩ := h
  rfl
theorem ok_Change_read {f : Addr} {fd : FuncData} {f_build_change : Addr} {fd_build_change : FuncData} {f_parse_assignments : Addr} {fd_parse_assignments : FuncData} {f_Reader___init__ : Addr} {fd_Reader___init__ : FuncData} {f_Reader_take_end : Addr} {fd_Reader_take_end : FuncData} {f_Reader_at_end : Addr} {fd_Reader_at_end : FuncData} (F : Fun K "read" "Change.read" s_Change_read f fd) (T : Gs K mg t_BOUND t_DIGITS t_LETTERS t_LONGEST_INTEGER t_LONGEST_NAME a_MARKS a_RESERVED a_SIGNS a_BadName a_BadNumber a_BadText a_Change a_ElseputError a_Reader a_TooLarge) (c_build_change : Cal P w K mg base (L2.CX P w) 5 "build_change" f_build_change fd_build_change ["parsed"] (sp_build_change K)) (c_parse_assignments : Cal P w K mg base (L2.CX P w) 7 "parse_assignments" f_parse_assignments fd_parse_assignments ["reader"] (sp_parse_assignments K)) (c_Reader___init__ : CalID P w K mg base (L2.CX P w) 4 "Reader" a_Reader f_Reader___init__ fd_Reader___init__ ["self", "line", "number"] [(.int 1)] (sp_Reader___init__ K)) (c_Reader_take_end : CalM P w K mg base (L2.CX P w) 4 a_Reader "take_end" f_Reader_take_end fd_Reader_take_end ["self"] (sp_Reader_take_end K)) (c_Reader_at_end : CalM P w K mg base CX0 1 a_Reader "at_end" f_Reader_at_end fd_Reader_at_end ["self"] (sp_Reader_at_end K)) : FnOk P w K mg base (L2.CX P w) 8 f fd ["line"] (sp_Change_read K) := by
  refine F.okX sc_Change_read (fun vs H Q E h => len_Change_read h) (fun cdv A outer s H vs Q E hr h => ?_)
  obtain ⟨z, rfl, hz, hk, q⟩ := h
  refine ⟨_, (pss_cons (ps_set (i := 1) sc_Change_read.nd rfl (.inl rfl) (pe_makeD c_Reader___init__ (hr.mono (by first | decide | omega)) rfl (passes_call (takes_of rfl rfl rfl rfl) (fun _ _ _ _ h => h)) (pa_cons (v_ 0) pa_nil))) (pss_cons (ps_set (i := 2) sc_Change_read.nd rfl (.inl rfl) (pe_ifExp (pt_t K (pe_meth0 (v_ 1) c_Reader_at_end.cl c_Reader_at_end.me c_Reader_at_end.G (hr.mono (by first | decide | omega)) c_Reader_at_end.b .nil pass0)) (pe_lst pa_nil) (pe_call c_parse_assignments.G (hr.mono (by first | decide | omega)) rfl c_parse_assignments.m c_parse_assignments.kp c_parse_assignments.b .nil (passes_call (takes_of rfl rfl rfl rfl) (fun _ _ _ _ h => h)) (pa_cons (v_ 1) pa_nil)))) (pss_cons (ps_expr (pe_meth0 (v_ 1) c_Reader_take_end.cl c_Reader_take_end.me c_Reader_take_end.G (hr.mono (by first | decide | omega)) c_Reader_take_end.b .nil (passes_call (takes_of rfl rfl rfl rfl) (fun _ _ _ _ h => h)))) (pss_one (ps_ret (pe_call c_build_change.G (hr.mono (by first | decide | omega)) rfl c_build_change.m c_build_change.kp c_build_change.b .nil (passes_call (takes_of rfl rfl rfl rfl) (fun _ _ _ _ h => h)) (pa_cons (v_ 2) pa_nil))))))), ?_⟩
  refine fun x dx nx nd ne => ?_
  have sm : Same H (upd (upd H dx (.own x)) x (.ins a_Reader dx [])) := fun b o hb => by
    rw [upd_ne (ne_of_none hb nx), upd_ne (ne_of_none hb nd)]
    exact hb
  refine ⟨x, a_Reader, dx, z, 1, rfl, T.n_Reader, upd_same, by omega, by decide, by decide, ?_⟩
  unfold outOf at q
  unfold Inits
  cases hs : splitL z.cps.toList 1 with
  | error c =>
    rw [hs] at q
    exact BadAt.same (show BadAt K H 1 (c : Int) E from q) sm
  | ok toks =>
    rw [hs] at q
    intro H1 p b1 r1
    refine ⟨rfl, ?_⟩
    obtain ⟨hT, hE, hlen⟩ := hk toks hs
    have s1 : Same H H1 := fun b o hb => b1 b o (ne_of_none hb nx) (sm _ _ hb)
    have R0 : Rd0 K H1 x p 1 ((z.length : Int) + 1) toks 0 := ⟨r1, hT, by decide, by decide, by omega, by omega⟩
    obtain ⟨C1, dx1, ts1, hC1, hx1, hp1, hts1, hi1⟩ := id r1
    cases hC1.symm.trans T.n_Reader
    have toSame : ∀ {H' : Hp}, Bt x H1 H' → Same H H' := fun b c o hc => b c o (ne_of_none hc nx) (s1 _ _ hc)
    have q : ToOut K H (tOut toks ((z.length : Int) + 1)) Q E := q
    unfold tOut at q
    refine ⟨x, dx1, _, rfl, hx1, rfl, x, p, 1, _, toks, 0, rfl, r1, ?_⟩
    refine ite2 (fun e => ?_) (fun e => ?_)
    · have e : 0 = toks.length := of_decide_eq_true e
      rw [if_pos e.symm] at q
      refine ⟨Nat.zero_le _, fun L nL => ?_⟩
      have sL := same_new (o := .lst []) nL
      refine ⟨x, dx1, _, rfl, sL _ _ hx1, rfl, x, p, 1, _, toks, 0, rfl, R0.same sL, ?_⟩
      rw [if_pos e]
      refine ⟨L, [], [], rfl, upd_same, trivial, (fun _ h => nomatch h), fun H' a s hA => ?_⟩
      exact (show ∀ (H' : Hp) (a : Addr), Same H H' → ChAt K H' a [] → Q (.ref a) H' from q) H' a ((s1.trans sL).trans s) hA
    · have e : ¬ 0 = toks.length := of_decide_eq_false (Bool.eq_false_iff.mpr e)
      rw [if_neg (fun h => e h.symm)] at q
      refine ⟨x, p, 1, _, toks, rfl, R0, hE, hlen, ?_⟩
      cases hP : pAll toks with
      | error j =>
        rw [hP] at q
        have q : BadAt K H 1 (colAt toks ((z.length : Int) + 1) j) E := q
        exact fun C d H' hC b nd hd => q C d H' hC (toSame b) (Same.free s1 nd) hd
      | ok r =>
        rw [hP] at q
        intro H2 L rs b2 nL r2 hL hrs
        obtain ⟨C2, dx2, ts2, hC2, hx2, _⟩ := id r2
        cases hC2.symm.trans T.n_Reader
        have s2 := toSame b2
        refine ⟨x, dx2, _, rfl, hx2, rfl, x, p, 1, _, toks, r.2, rfl, R0.to r2, ?_⟩
        have q : ToOut K H (if r.2 = toks.length then bOut (foldJ [] r.1) else .bad (colAt toks ((z.length : Int) + 1) r.2)) Q E := q
        by_cases he : r.2 = toks.length
        · rw [if_pos he] at q ⊢
          refine ⟨L, rs, r.1, rfl, hL, hrs, (pAll_ok hP).2, ?_⟩
          unfold Builds
          cases hJ : foldJ [] r.1 with
          | some ys =>
            rw [hJ] at q
            exact fun H' a s hA => (show ∀ (H' : Hp) (a : Addr), Same H H' → ChAt K H' a ys → Q (.ref a) H' from q) H' a (s2.trans s) hA
          | none =>
            rw [hJ] at q
            exact fun C d H' hC s nd hd => (show TooBig K H E from q) C d H' hC (s2.trans s) (Same.free s2 nd) hd
        · rw [if_neg he] at q ⊢
          exact BadAt.same (show BadAt K H 1 _ E from q) s2
end
section
variable {P : Program} {w : World} {K : PySem.W.Frag} {mg : Str → Option Value} {base : Heap}
variable {t_BOUND t_DIGITS t_LETTERS t_LONGEST_INTEGER t_LONGEST_NAME : Tok} {a_MARKS a_RESERVED a_SIGNS a_BadName a_BadNumber a_BadText a_Change a_ElseputError a_Reader a_TooLarge : Addr}
/-! ### what a row of tokens is read as -/
def fitP (j : Nat) (p : List Nat) : Prop := (j % 4 = 0 → (deedOf p).isSome = true) ∧ (j % 4 = 1 → isName (mkS p) = true) ∧ (j % 4 = 2 → (rdI p).isSome = true) ∧ (j % 4 = 3 → p = [44])
theorem pA_fit {toks : Tks} {q : Nat} (h0 : fitP (4 * q) (tokAt toks (4 * q))) (h1 : fitP (4 * q + 1) (tokAt toks (4 * q + 1))) (h2 : fitP (4 * q + 2) (tokAt toks (4 * q + 2))) : ∃ x, pA toks (4 * q) = .ok x := by
  obtain ⟨b, hb⟩ := Option.isSome_iff_exists.mp (h0.1 (by omega))
  obtain ⟨n, hn⟩ := Option.isSome_iff_exists.mp (h2.2.2.1 (by omega))
  exact ⟨_, pA_e3 hb (h1.2.1 (by omega)) hn⟩
theorem pA_bad {toks : Tks} {q r : Nat} (hr : r < 3) (h : ∀ j, j < r → fitP (4 * q + j) (tokAt toks (4 * q + j))) (hb : ¬ fitP (4 * q + r) (tokAt toks (4 * q + r))) : pA toks (4 * q) = .error (4 * q + r) := by
  match r, hr, h, hb with
  | 0, _, h, hb =>
    refine pA_e0 ?_
    cases e : deedOf (tokAt toks (4 * q)) with
    | none => rfl
    | some b => exact absurd ⟨fun _ => by rw [Nat.add_zero, e]; rfl, fun h => absurd h (by omega), fun h => absurd h (by omega), fun h => absurd h (by omega)⟩ hb
  | 1, _, h, hb =>
    obtain ⟨b, hd⟩ := Option.isSome_iff_exists.mp ((h 0 (by decide)).1 (by omega))
    refine pA_e1 hd fun hn => hb ⟨fun h => absurd h (by omega), fun _ => hn, fun h => absurd h (by omega), fun h => absurd h (by omega)⟩
  | 2, _, h, hb =>
    obtain ⟨b, hd⟩ := Option.isSome_iff_exists.mp ((h 0 (by decide)).1 (by omega))
    refine pA_e2 hd ((h 1 (by decide)).2.1 (by omega)) ?_
    cases e : rdI (tokAt toks (4 * q + 2)) with
    | none => rfl
    | some n => exact absurd ⟨fun h => absurd h (by omega), fun h => absurd h (by omega), fun _ => by rw [e]; rfl, fun h => absurd h (by omega)⟩ hb
/-- assignments one behind another -/
theorem pL_run {toks : Tks} : ∀ (k m n : Nat) (xs : List Rw), xs.length = k → (∀ j, j < k → tokAt toks (4 * (m + j) + 3) = [44]) → (∀ j x, xs[j]? = some x → pA toks (4 * (m + j) + 4) = .ok x) → pL toks (n + k) (4 * m + 3) = preR xs (pL toks n (4 * (m + k) + 3))
  | 0, m, n, xs, hl, _, _ => by
    rw [List.eq_nil_of_length_eq_zero hl]
    show pL toks n (4 * m + 3) = preR [] (pL toks n (4 * m + 3))
    cases pL toks n (4 * m + 3) with
    | error j => rfl
    | ok r => rfl
  | k + 1, m, n, [], hl, _, _ => by cases hl
  | k + 1, m, n, x :: xs, hl, hc, hx => by
    have h1 := hc 0 (by omega)
    have h2 := hx 0 x rfl
    have e := pL_on (n := n + k) h1 (show pA toks (4 * m + 3 + 1) = .ok x from h2)
    have ih := pL_run k (m + 1) n xs (by rw [List.length_cons] at hl; omega) (fun j hj => by rw [show 4 * (m + 1 + j) + 3 = 4 * (m + (j + 1)) + 3 by omega]; exact hc (j + 1) (by omega)) (fun j y hy => by rw [show 4 * (m + 1 + j) + 4 = 4 * (m + (j + 1)) + 4 by omega]; exact hx (j + 1) y (by simpa using hy))
    rw [show n + (k + 1) = n + k + 1 by omega]
    rw [show pL toks (n + k + 1) (4 * m + 3) = _ from e]
    rw [show 4 * (m + 0) + 3 + 4 = 4 * (m + 1) + 3 by omega, ih, preR_pre, show 4 * (m + 1 + k) + 3 = 4 * (m + (k + 1)) + 3 by omega]
    rfl
theorem pAll_run {toks : Tks} {xs : List Rw} {M : Nat} (hl : xs.length = M + 1) (hM : 4 * M + 3 ≤ toks.length) (hc : ∀ j, j < M → tokAt toks (4 * j + 3) = [44]) (hx : ∀ j x, xs[j]? = some x → pA toks (4 * j) = .ok x) :
    pAll toks = preR xs (pL toks (toks.length - M) (4 * M + 3)) := by
  cases xs with
  | nil => cases hl
  | cons x r =>
    have h0 := hx 0 x rfl
    have e := pL_run (toks := toks) M 0 (toks.length - M) r (by rw [List.length_cons] at hl; omega) (fun j hj => by rw [Nat.zero_add]; exact hc j hj) (fun j y hy => by rw [Nat.zero_add]; exact hx (j + 1) y (by simpa using hy))
    rw [show toks.length - M + M = toks.length by omega, show 0 + M = M by omega] at e
    rw [pAll_on (show pA toks 0 = .ok x from h0), show pL toks toks.length 3 = _ from e, preR_pre]
    rfl
/-- an error at the k-th token -/
theorem tOut_bad {toks : Tks} {e : Int} {k : Nat} (h0 : toks.length ≠ 0) (hk : k ≤ toks.length) (h : ∀ j, j < k → fitP j (tokAt toks j)) (hb : ¬ fitP k (tokAt toks k)) (h3 : k % 4 = 3 → k ≠ toks.length) : tOut toks e = .bad (colAt toks e k) := by
  obtain ⟨q, r, hr, rfl⟩ : ∃ q r, r < 4 ∧ k = 4 * q + r := ⟨k / 4, k % 4, by omega, by omega⟩
  have getX : ∀ Q : Nat, 4 * Q ≤ 4 * q + r → ∃ xs : List Rw, xs.length = Q ∧ ∀ j x, xs[j]? = some x → pA toks (4 * j) = .ok x := fun Q => by
    induction Q with
    | zero => exact fun _ => ⟨[], rfl, fun j x h => nomatch h⟩
    | succ Q ih =>
      intro hQ
      obtain ⟨xs, h1, h2⟩ := ih (by omega)
      obtain ⟨x, hx⟩ := pA_fit (toks := toks) (q := Q) (h _ (by omega)) (h _ (by omega)) (h _ (by omega))
      refine ⟨xs ++ [x], by rw [List.length_append, h1]; rfl, fun j y hy => ?_⟩
      by_cases hj : j < xs.length
      · rw [List.getElem?_append_left hj] at hy
        exact h2 j y hy
      · rw [List.getElem?_append_right (by omega)] at hy
        have hj0 : j - xs.length = 0 := by
          have := (List.getElem?_eq_some_iff.mp hy).1
          rw [List.length_singleton] at this
          omega
        rw [hj0] at hy
        cases hy
        rw [show j = Q by omega]
        exact hx
  unfold tOut
  rw [if_neg h0]
  by_cases h4 : r = 3
  · subst h4
    obtain ⟨x, hx⟩ := pA_fit (toks := toks) (q := q) (h _ (by omega)) (h _ (by omega)) (h _ (by omega))
    obtain ⟨xs, hl, hxs⟩ := getX q (by omega)
    have e1 := pAll_run (toks := toks) (xs := xs ++ [x]) (M := q) (by rw [List.length_append, hl]; rfl) (by omega) (fun j hj => (h (4 * j + 3) (by omega)).2.2.2 (by omega)) (fun j y hy => by
      by_cases hj : j < xs.length
      · rw [List.getElem?_append_left hj] at hy
        exact hxs j y hy
      · rw [List.getElem?_append_right (by omega)] at hy
        have hj0 : j - xs.length = 0 := by
          have := (List.getElem?_eq_some_iff.mp hy).1
          rw [List.length_singleton] at this
          omega
        rw [hj0] at hy
        cases hy
        rw [show j = q by omega]
        exact hx)
    have hne : tokAt toks (4 * q + 3) ≠ [44] := fun e => hb ⟨fun h => absurd h (by omega), fun h => absurd h (by omega), fun h => absurd h (by omega), fun _ => e⟩
    rw [pL_stop hne] at e1
    rw [e1]
    show (if 4 * q + 3 = toks.length then _ else _) = _
    rw [if_neg (h3 (by omega))]
  · have hA := pA_bad (toks := toks) (q := q) (r := r) (by omega) (fun j hj => h _ (by omega)) hb
    cases q with
    | zero => rw [pAll_err (show pA toks 0 = .error _ from hA)]
    | succ q =>
      obtain ⟨xs, hl, hxs⟩ := getX (q + 1) (by omega)
      have e1 := pAll_run (toks := toks) (xs := xs) (M := q) hl (by omega) (fun j hj => (h (4 * j + 3) (by omega)).2.2.2 (by omega)) hxs
      have hcm := (h (4 * q + 3) (by omega)).2.2.2 (by omega)
      have e2 := pL_err (toks := toks) (n := toks.length - q - 1) hcm (show pA toks (4 * q + 3 + 1) = .error _ from hA)
      rw [show toks.length - q - 1 + 1 = toks.length - q by omega] at e2
      rw [e2] at e1
      rw [e1]
      rfl
/-- a whole line -/
theorem tOut_ok {toks : Tks} {e : Int} {xs : List Rw} {M : Nat} (hl : xs.length = M + 1) (hlen : toks.length = 4 * M + 3) (hc : ∀ j, j < M → tokAt toks (4 * j + 3) = [44]) (hx : ∀ j x, xs[j]? = some x → pA toks (4 * j) = .ok x) : tOut toks e = bOut (foldJ [] xs) := by
  unfold tOut
  have e1 := pAll_run hl (by omega) hc hx
  rw [pL_stop (by rw [tokAt_end (by omega)]; decide)] at e1
  rw [if_neg (by omega), e1]
  show (if 4 * M + 3 = toks.length then bOut (foldJ [] (xs ++ [])) else _) = _
  rw [if_pos hlen.symm, List.append_nil]
end
section
variable {P : Program} {w : World} {K : PySem.W.Frag} {mg : Str → Option Value} {base : Heap}
variable {t_BOUND t_DIGITS t_LETTERS t_LONGEST_INTEGER t_LONGEST_NAME : Tok} {a_MARKS a_RESERVED a_SIGNS a_BadName a_BadNumber a_BadText a_Change a_ElseputError a_Reader a_TooLarge : Addr}
/-! ### texts of rows -/
def ltxt (x : Rw) : Str := deed x.add ++ " " ++ x.f ++ " " ++ ((toString x.n : String) : Str)
theorem deed_len (b : Bool) : (deed b).length = 3 := by cases b <;> decide +kernel
theorem one_sp : (" " : Str).length = 1 := by decide +kernel
theorem ltxt_len {x : Rw} (h : RowOk x) (h2 : x.f.length ≤ 12) : (ltxt x).length ≤ 50 := by
  have := num_short h.2.2
  have d := deed_len x.add
  unfold ltxt
  rw [len_add, len_add, len_add, len_add, one_sp]
  omega
theorem empty_add (z : Str) : Str.empty ++ z = z := str_eq.mpr (by rw [cps_add]; rfl)
theorem inB_log {n : Int} (h : inB n = true) : n.natAbs.log2 < 1920 := by
  have h := inB_bd h
  by_cases hz : n.natAbs = 0
  · rw [hz]
    decide
  · refine (Nat.log2_lt hz).mpr (Nat.lt_of_lt_of_le (show n.natAbs < 2 ^ 100 from ?_) (Nat.pow_le_pow_right (by decide) (by decide)))
    have e : (2 : Nat) ^ 100 = 1267650600228229401496703205376 := by decide +kernel
    rw [e]
    omega
theorem sum_le {α : Type} {f : α → Nat} {B : Nat} : ∀ {l : List α}, (∀ x ∈ l, f x ≤ B) → (l.map f).sum ≤ l.length * B
  | [], _ => by simp
  | a :: r, h => by
    have h1 := h a List.mem_cons_self
    have h2 := sum_le (l := r) fun x hx => h x (List.mem_cons_of_mem _ hx)
    rw [List.map_cons, List.sum_cons, List.length_cons, Nat.succ_mul]
    omega
def jtxt (xs : List Rw) : Str := Str.join ", " (xs.map ltxt)
def sp_Change_text (K : PySem.W.Frag) : Sp := fun vs H Q _ => ∃ (a : Addr) (xs : List Rw), vs = [.ref a] ∧ ChAt K H a xs ∧ xs.length ≤ 10 ∧ (∀ x ∈ xs, RowOk x ∧ x.f.length ≤ 12) ∧ ∀ H', Same H H' → Q (.str (jtxt xs)) H'
theorem len_Change_text {vs : List V} {H : Hp} {Q : VK} {E : XK} (h : sp_Change_text K vs H Q E) : vs.length = 1 := by
  obtain ⟨_, _, rfl, _⟩ := h
  rfl
theorem cm_len : (", " : Str).length = 2 := by decide +kernel
theorem ok_Change_text {f : Addr} {fd : FuncData} (F : Fun K "text" "Change.text" s_Change_text f fd) (T : Gs K mg t_BOUND t_DIGITS t_LETTERS t_LONGEST_INTEGER t_LONGEST_NAME a_MARKS a_RESERVED a_SIGNS a_BadName a_BadNumber a_BadText a_Change a_ElseputError a_Reader a_TooLarge) : FnOk P w K mg base CX0 1 f fd ["self"] (sp_Change_text K) := by
  refine F.ok sc_Change_text (fun vs H Q E h => len_Change_text h) (fun cdv A outer s H vs Q E hr h => ?_)
  obtain ⟨a, xs, rfl, ⟨C, dx, t, rs, hC, ha, ht, hrs⟩, lx, hok, q⟩ := h
  cases hC.symm.trans T.n_Change
  refine ⟨_, (pss_one (ps_ret (pe_join pe_str (pe_lc (own := [("field", 1), ("deed", 2), ("number", 3)]) (g := gTup K 3 (gCons (gName 1) (gCons (gName 2) (gCons (gName 3) gNil)))) (by rfl) sc_Change_text.nd (pi_tup (e_f K (v_ 0))) (blkOk_by (N := ["self", "field", "deed", "number"]) (sc := defScope s_Change_text) (by decide +kernel)) (fun _ _ _ _ _ => pg_tupK K (by rfl) (pgs_cons (pg_name (i := 1) sc_Change_text.nd rfl (Or.inl rfl)) (pgs_cons (pg_name (i := 2) sc_Change_text.nd rfl (Or.inl rfl)) (pgs_cons (pg_name (i := 3) sc_Change_text.nd rfl (Or.inl rfl)) pgs_nil)))) (fun _ _ _ _ _ => pts_nil) (fun _ _ _ _ _ => (pe_joined (.cons (pe_fmt (v_ 2)) (.cons pe_str (.cons (pe_fmt (v_ 1)) (.cons pe_str (.cons (pe_fmt (v_ 3)) .nil))))))))))), ?_⟩
  refine ⟨⟨_, rfl⟩, a, a_Change, dx, _, _, rfl, ha, T.cl_Change, T.na_Change_assignments, rfl, t, rfl, ⟨_, SqT.of ht⟩, fun D nD => ?_⟩
  refine lc_it (te := fun σ H Q => tJs [_, _, _, _, _] Str.empty σ H fun out H1 => Q (.str out) H1) walk_tup (fun i H' => Same H H' ∧ H' D = some (.lst (((xs.take i).map ltxt).map V.str))) ⟨same_new nD, upd_same⟩ (fun _ _ _ h => SqT.of (h.1 _ _ ht)) ?_ ?_
  · rintro i v H1 H2 hi ⟨sm, hD⟩ ⟨rfl, hv⟩
    rw [List.length_map] at hi
    obtain ⟨r, er⟩ : ∃ r, rs[i]? = some r := ⟨_, List.getElem?_eq_getElem hi⟩
    have hv : (rs.map V.ref)[i]? = some v := by
      first | exact hv | exact hv _ (SqT.of (sm _ _ ht))
    rw [List.getElem?_map, er] at hv
    cases hv
    obtain ⟨x, ex, hx⟩ := hrs.get er
    obtain ⟨h1, h2⟩ := hok x (List.mem_of_getElem? ex)
    have hat := sm _ _ hx
    have ln := num_short h1.2.2
    have d3 := deed_len x.add
    have s1 := one_sp
    have z0 : Str.empty.length = 0 := rfl
    refine ⟨r, _, rfl, SqT.of hat, rfl, _, _, rfl, _, _, rfl, _, _, rfl, rfl, rfl, ?_⟩
    refine .inl ⟨_, rfl, line_of (by omega), _, rfl, line_of (by rw [len_add]; omega), _, rfl, line_of (by rw [len_add, len_add]; omega), .inl ⟨_, rfl, line_of (by omega), _, rfl, line_of (by rw [len_add, len_add, len_add]; omega), _, rfl, line_of (by rw [len_add, len_add, len_add, len_add]; omega), .inr ⟨_, rfl, inB_log h1.2.2, _, rfl, line_of (by rw [len_add, len_add, len_add, len_add, len_add]; omega), ?_⟩⟩⟩
    refine ⟨_, hD, line_lt (by rw [List.length_map, List.length_map, List.length_take]; omega), fun b o hb => ?_, ?_⟩
    · rw [upd_ne (ne_of_none hb nD)]
      exact sm _ _ hb
    · rw [upd_same, take_snoc ex, List.map_append, List.map_append, empty_add]
      rfl
  · rintro H1 ⟨sm, hD⟩
    rw [List.length_map, hrs.len, List.take_length] at hD
    refine ⟨_, D, xs.map ltxt, rfl, rfl, .inl (SqL.of hD), ?_, ?_⟩
    · have hs := sum_le (f := fun z : Str => z.length) (B := 50) (l := xs.map ltxt) fun z hz => by
        obtain ⟨x, hx, rfl⟩ := List.mem_map.mp hz
        exact ltxt_len (hok x hx).1 (hok x hx).2
      rw [List.length_map] at hs ⊢
      rw [cm_len]
      have hs : ((xs.map ltxt).map (·.length)).sum ≤ xs.length * 50 := hs
      omega
    · rw [TL.join_eq]
      exact q _ sm
def sp__law_rows_text (K : PySem.W.Frag) : Sp := fun vs H Q _ => ∃ (p : Addr) (rs : List Addr) (xs : List Rw), vs = [.ref p] ∧ H p = some (.lst (rs.map V.ref)) ∧ RowsL H rs xs ∧ xs.length ≤ 10 ∧ (∀ x ∈ xs, RowOk x ∧ x.f.length ≤ 12) ∧ ∀ H', Same H H' → Q (.str (jtxt xs)) H'
theorem len__law_rows_text {vs : List V} {H : Hp} {Q : VK} {E : XK} (h : sp__law_rows_text K vs H Q E) : vs.length = 1 := by
  obtain ⟨_, _, _, rfl, _⟩ := h
  rfl
theorem ok__law_rows_text {f : Addr} {fd : FuncData} (F : Fun K "_law_rows_text" "_law_rows_text" s__law_rows_text f fd) (T : Gs K mg t_BOUND t_DIGITS t_LETTERS t_LONGEST_INTEGER t_LONGEST_NAME a_MARKS a_RESERVED a_SIGNS a_BadName a_BadNumber a_BadText a_Change a_ElseputError a_Reader a_TooLarge) : FnOk P w K mg base CX0 1 f fd ["_law_rows"] (sp__law_rows_text K) := by
  refine F.ok sc__law_rows_text (fun vs H Q E h => len__law_rows_text h) (fun cdv A outer s H vs Q E hr h => ?_)
  obtain ⟨p, rs, xs, rfl, hp, hrs, lx, hok, q⟩ := h
  refine ⟨_, (pss_one (ps_ret (pe_join pe_str (pe_lc (own := [("_law_row", 1)]) (g := gName 1) (by rfl) sc__law_rows_text.nd (pi_list (v_ 0)) (blkOk_by (N := ["_law_rows", "_law_row"]) (sc := defScope s__law_rows_text) (by decide +kernel)) (fun _ _ _ _ _ => pg_name (i := 1) sc__law_rows_text.nd rfl (Or.inl rfl)) (fun _ _ _ _ _ => pts_nil) (fun _ _ _ _ _ => (pe_op (addK K) (pe_op (addK K) (pe_op (addK K) (pe_op (addK K) (e_x K (v_ 1) pe_int) pe_str) (e_x K (v_ 1) pe_int)) pe_str) (pe_callTy call_str_int (by rfl) T.z_str (by decide +kernel) (pa_cons (e_x K (v_ 1) pe_int) pa_nil)))))))), ?_⟩
  refine ⟨⟨_, rfl⟩, p, rfl, ⟨_, SqL.of hp⟩, fun D nD => ?_⟩
  refine lc_it walk_list (fun i H' => Same H H' ∧ H' D = some (.lst (((xs.take i).map ltxt).map V.str))) ⟨same_new nD, upd_same⟩ (fun _ _ _ h => SqL.of (h.1 _ _ hp)) ?_ ?_
  · rintro i v H1 H2 hi ⟨sm, hD⟩ ⟨rfl, hv⟩
    rw [List.length_map] at hi
    obtain ⟨r, er⟩ : ∃ r, rs[i]? = some r := ⟨_, List.getElem?_eq_getElem hi⟩
    have hv : (rs.map V.ref)[i]? = some v := by
      first | exact hv | exact hv _ (SqL.of (sm _ _ hp))
    rw [List.getElem?_map, er] at hv
    cases hv
    obtain ⟨x, ex, hx⟩ := hrs.get er
    obtain ⟨h1, h2⟩ := hok x (List.mem_of_getElem? ex)
    have hat := sm _ _ hx
    have ln := num_short h1.2.2
    have d3 := deed_len x.add
    have s1 := one_sp
    refine ⟨rfl, ?_⟩
    refine ⟨_, .inr (SqT.of hat), .str (deed x.add), rfl, line_of (by omega), _, .inr (SqT.of hat), .str x.f, rfl, line_of (by rw [len_add]; omega), line_of (by rw [len_add, len_add]; omega), _, .inr (SqT.of hat), .int x.n, rfl, x.n, rfl, inB_log h1.2.2, line_of (by rw [len_add, len_add, len_add]; omega), ?_⟩
    refine ⟨_, hD, line_lt (by rw [List.length_map, List.length_map, List.length_take]; omega), fun b o hb => ?_, ?_⟩
    · rw [upd_ne (ne_of_none hb nD)]
      exact sm _ _ hb
    · rw [upd_same, take_snoc ex, List.map_append, List.map_append]
      rfl
  · rintro H1 ⟨sm, hD⟩
    rw [List.length_map, hrs.len, List.take_length] at hD
    refine ⟨_, D, xs.map ltxt, rfl, rfl, .inl (SqL.of hD), ?_, ?_⟩
    · have hs := sum_le (f := fun z : Str => z.length) (B := 50) (l := xs.map ltxt) fun z hz => by
        obtain ⟨x, hx, rfl⟩ := List.mem_map.mp hz
        exact ltxt_len (hok x hx).1 (hok x hx).2
      rw [List.length_map] at hs ⊢
      rw [cm_len]
      have hs : ((xs.map ltxt).map (·.length)).sum ≤ xs.length * 50 := hs
      omega
    · rw [TL.join_eq]
      exact q _ sm
end
section
variable {P : Program} {w : World} {K : PySem.W.Frag} {mg : Str → Option Value} {base : Heap}
variable {t_BOUND t_DIGITS t_LETTERS t_LONGEST_INTEGER t_LONGEST_NAME : Tok} {a_MARKS a_RESERVED a_SIGNS a_BadName a_BadNumber a_BadText a_Change a_ElseputError a_Reader a_TooLarge : Addr}
/-! ### laying a line -/
def PcOk (z : Str) : Prop := 0 < z.length ∧ z.length ≤ 40 ∧ z.cps.toList ≠ [45] ∧ z.cps.toList.headD 0 ≠ 61
def sp__law_touch (K : PySem.W.Frag) : Sp := fun vs H Q _ => ∃ a b : Str, vs = [.str a, .str b] ∧ 0 < a.length ∧ a.length ≤ 100 ∧ 0 < b.length ∧ b.length ≤ 100 ∧ a.cps.toList ≠ [45] ∧ b.cps.toList.headD 0 ≠ 61 ∧ ∀ H', Same H H' → Q (.bl (touchB a.cps.toList b.cps.toList)) H'
theorem len__law_touch {vs : List V} {H : Hp} {Q : VK} {E : XK} (h : sp__law_touch K vs H Q E) : vs.length = 2 := by
  obtain ⟨_, _, rfl, _⟩ := h
  rfl
theorem ok__law_touch {f : Addr} {fd : FuncData} (F : Fun K "_law_touch" "_law_touch" s__law_touch f fd) (T : Gs K mg t_BOUND t_DIGITS t_LETTERS t_LONGEST_INTEGER t_LONGEST_NAME a_MARKS a_RESERVED a_SIGNS a_BadName a_BadNumber a_BadText a_Change a_ElseputError a_Reader a_TooLarge) : FnOk P w K mg base CX0 1 f fd ["_law_one", "_law_two"] (sp__law_touch K) := by
  refine F.ok sc__law_touch (fun vs H Q E h => len__law_touch h) (fun cdv A outer s H vs Q E hr h => ?_)
  obtain ⟨a, b, rfl, a0, a1, b0, b1, hm, he, q⟩ := h
  refine ⟨_, (pss_cons (ps_set (i := 2) sc__law_touch.nd rfl (.inl rfl) pe_str) (pss_cons (ps_set (i := 3) sc__law_touch.nd rfl (.inl rfl) pe_str) (pss_cons (ps_if (PW.pt (pw_and (pt_c (inK K) (e_x K (v_ 0) (pe_un un_negM pe_int)) (v_ 2)) (pw_and1 (pt_c (inK K) (e_x K (v_ 1) pe_int) (v_ 2))))) (pss_one (ps_ret pe_bl)) pss_nil) (pss_one (ps_ret (pe_andM (pe_c (inK K) (e_x K (v_ 0) (pe_un un_negM pe_int)) (v_ 3)) (pe_one (pe_c (inK K) (e_x K (v_ 1) pe_int) (v_ 3))))))))), ?_⟩
  have ea := at_last a0
  have eb := at_head b0
  have la : a.length ≤ sizeLine := line_of (by omega)
  have lb : b.length ≤ sizeLine := line_of (by omega)
  have mL : ∀ c, decide (c ∈ letters.cps.toList) = isL c := fun c => by rw [letters_cps]; rfl
  have mD : ∀ c, decide (c ∈ ("0123456789" : Str).cps.toList) = isD c := fun c => by rw [digits_cps]; rfl
  have tB : touchB a.cps.toList b.cps.toList = ((isL (a.cps.toList.getLastD 0) && isL (b.cps.toList.headD 0)) || (isD (a.cps.toList.getLastD 0) && isD (b.cps.toList.headD 0))) := by
    unfold touchB
    rw [decide_eq_false hm, decide_eq_false he, Bool.false_and, Bool.or_false, Bool.or_false, Bool.and_comm (isD (b.cps.toList.headD 0))]
  rw [tB] at q
  generalize a.cps.toList.getLastD 0 = x at ea q
  generalize b.cps.toList.headD 0 = y at eb q
  have q := q H (Same.refl H)
  have bf : ∀ {c : Bool}, ¬ c = true → c = false := fun h => Bool.eq_false_iff.mpr h
  have rest : (isL x && isL y) = false → ∀ r : Bool, (isD x && isD y) = r → Q (.bl r) H := fun h1 r h2 => by
    rw [h1, h2, Bool.false_or] at q
    exact q
  refine ⟨la, x, ea, x, rfl, ?_⟩
  refine ite2 (fun h1 => ?_) (fun h1 => ?_)
  · have h1 : isL x = true := (mL x).symm.trans h1
    refine ⟨lb, y, eb, y, rfl, ?_⟩
    refine ite2 (fun h2 => ?_) (fun h2 => ?_)
    · have h2 : isL y = true := (mL y).symm.trans h2
      rw [h1, h2] at q
      exact q
    have h2 : isL y = false := (mL y).symm.trans (bf h2)
    have rest := rest (by rw [h2, Bool.and_false])
    refine ⟨la, x, ea, x, rfl, ?_⟩
    refine ite2 (fun h3 => ?_) (fun h3 => ?_)
    · have h3 : isD x = true := (mD x).symm.trans h3
      refine ⟨lb, y, eb, y, rfl, ?_⟩
      exact rest _ (by rw [h3, Bool.true_and]; exact (mD y).symm)
    · have h3 : isD x = false := (mD x).symm.trans (bf h3)
      exact rest _ (by rw [h3, Bool.false_and])
  have h1 : isL x = false := (mL x).symm.trans (bf h1)
  have rest := rest (by rw [h1, Bool.false_and])
  refine ⟨la, x, ea, x, rfl, ?_⟩
  refine ite2 (fun h3 => ?_) (fun h3 => ?_)
  · have h3 : isD x = true := (mD x).symm.trans h3
    refine ⟨lb, y, eb, y, rfl, ?_⟩
    exact rest _ (by rw [h3, Bool.true_and]; exact (mD y).symm)
  · have h3 : isD x = false := (mD x).symm.trans (bf h3)
    exact rest _ (by rw [h3, Bool.false_and])

/-! ### _law_laid -/
def colV (n : Nat) : V := .int (n : Int)
def sp__law_laid (K : PySem.W.Frag) : Sp := fun vs H Q _ => ∃ (st scr p : Addr) (zs : List Str), vs = [.ref st, .ref p] ∧ DrAt H st scr ∧ H p = some (.lst (zs.map V.str)) ∧ p ≠ st ∧ zs.length ≤ 100 ∧ (∀ z ∈ zs, PcOk z) ∧
  ∀ (H' : Hp) (t c : Addr) (line : Str) (lead tail : Nat) (gs : List (Nat × List Nat)), Bt st H H' → DrAt H' st scr → H t = none → H c = none → H' t = some (.tup [.str line, .ref c]) → H' c = some (.lst ((cols (1 + lead) gs).map colV)) →
    gs.map (·.2) = zs.map (·.cps.toList) → Apart gs → line.cps.toList = List.replicate lead 32 ++ lay gs (List.replicate tail 32) → line.length ≤ 10000 → Q (.ref t) H'
theorem len__law_laid {vs : List V} {H : Hp} {Q : VK} {E : XK} (h : sp__law_laid K vs H Q E) : vs.length = 2 := by
  obtain ⟨_, _, _, _, rfl, _⟩ := h
  rfl
theorem ok__law_laid {f : Addr} {fd : FuncData} {f__law_draw : Addr} {fd__law_draw : FuncData} {f__law_touch : Addr} {fd__law_touch : FuncData} (F : Fun K "_law_laid" "_law_laid" s__law_laid f fd) (T : Gs K mg t_BOUND t_DIGITS t_LETTERS t_LONGEST_INTEGER t_LONGEST_NAME a_MARKS a_RESERVED a_SIGNS a_BadName a_BadNumber a_BadText a_Change a_ElseputError a_Reader a_TooLarge) (c__law_draw : Cal P w K mg base CX0 1 "_law_draw" f__law_draw fd__law_draw ["_law_state_here", "_law_many"] (sp__law_draw K)) (c__law_touch : Cal P w K mg base CX0 1 "_law_touch" f__law_touch fd__law_touch ["_law_one", "_law_two"] (sp__law_touch K)) : FnOk P w K mg base CX0 2 f fd ["_law_state_here", "_law_pieces"] (sp__law_laid K) := by
  refine F.ok sc__law_laid (fun vs H Q E h => len__law_laid h) (fun cdv A outer s H vs Q E hr h => ?_)
  obtain ⟨st, scr, p, zs, rfl, hd, hp, hne, hl, hz, q⟩ := h
  refine ⟨_, (pss_cons (ps_set (i := 2) sc__law_laid.nd rfl (.inl rfl) (pe_op op_mulSM pe_str (pe_call c__law_draw.G (hr.mono (by first | decide | omega)) rfl c__law_draw.m c__law_draw.kp c__law_draw.b .nil pass0 (pa_cons (v_ 0) (pa_cons pe_int pa_nil))))) (pss_cons (ps_set (i := 3) sc__law_laid.nd rfl (.inl rfl) (pe_lst pa_nil)) (pss_cons (ps_set (i := 4) sc__law_laid.nd rfl (.inl rfl) pe_int) (pss_cons (ps_for PassesOwn.never rfl (pi_range1 rfl T.z_range (pa_cons (pe_callB (lenK K) (by rfl) T.z_len PySem.boot_len (pa_cons (v_ 1) pa_nil)) pa_nil)) (pg_name (i := 5) sc__law_laid.nd rfl (.inl rfl)) (Evl.pss_cut (ps_if (pt_c (eqK K hr.units) (pe_op op_modM (v_ 5) pe_int) pe_int) (pss_one (ps_set (i := 4) sc__law_laid.nd rfl (.inl rfl) (pe_call c__law_draw.G (hr.mono (by first | decide | omega)) rfl c__law_draw.m c__law_draw.kp c__law_draw.b .nil pass0 (pa_cons (v_ 0) (pa_cons pe_int pa_nil))))) pss_nil) (pss_cons (ps_set (i := 6) sc__law_laid.nd rfl (.inl rfl) (pe_op op_modM (pe_callTy call_intM (by rfl) T.z_int (by decide +kernel) (pa_cons (v_ 4) pa_nil)) pe_int)) (pss_cons (ps_set (i := 4) sc__law_laid.nd rfl (.inl rfl) (pe_op op_divM (pe_callTy call_intM (by rfl) T.z_int (by decide +kernel) (pa_cons (v_ 4) pa_nil)) pe_int)) (Evl.pss_cut (ps_if (PW.pt (pw_and (pt_c (eqK K hr.units) (v_ 6) pe_int) (pw_and (pt_c op_gtM (v_ 5) pe_int) (pw_and1 (pt_t K (pe_call c__law_touch.G (hr.mono (by first | decide | omega)) rfl c__law_touch.m c__law_touch.kp c__law_touch.b .nil pass0 (pa_cons (e_x K (v_ 1) (pe_op op_subM (v_ 5) pe_int)) (pa_cons (e_x K (v_ 1) (v_ 5)) pa_nil)))))))) (pss_one (ps_set (i := 6) sc__law_laid.nd rfl (.inl rfl) pe_int)) pss_nil) (pss_cons (ps_set (i := 2) sc__law_laid.nd rfl (.inl rfl) (pe_op (addK K) (v_ 2) (pe_op op_mulSM pe_str (v_ 6)))) (pss_cons (ps_expr (pe_bm PySem.F.plainAttrs_list PySem.F.slot_list_append PySem.F.type_list_append mt_append (v_ 3) (pa_cons (pe_op (addK K) (pe_callB (lenK K) (by rfl) T.z_len PySem.boot_len (pa_cons (v_ 2) pa_nil)) pe_int) pa_nil))) (pss_one (ps_set (i := 2) sc__law_laid.nd rfl (.inl rfl) (pe_op (addK K) (v_ 2) (e_x K (v_ 1) (v_ 5)))))))))))) (pss_one (ps_ret (pe_tup (pa_cons (pe_op (addK K) (v_ 2) (pe_op op_mulSM pe_str (pe_call c__law_draw.G (hr.mono (by first | decide | omega)) rfl c__law_draw.m c__law_draw.kp c__law_draw.b .nil pass0 (pa_cons (v_ 0) (pa_cons pe_int pa_nil))))) (pa_cons (v_ 3) pa_nil))))))))), ?_⟩
  refine ⟨st, scr, _, rfl, hd, by decide, many_small (by decide) (by decide), fun ld l r0 r1 hd => ?_⟩
  have b1 : Bt st H (upd H st (.lst l)) := Bt.st
  generalize upd H st (.lst l) = H1 at hd b1 ⊢
  refine ⟨by omega, by omega, by decide, ?_⟩
  refine ⟨Nat.zero_le _, fun c nc => ?_⟩
  have cs : c ≠ st := hd.ne_new nc
  have cc : c ≠ scr := hd.ne_scr nc
  have c0 : H c = none := b1.free cs nc
  have cp : c ≠ p := fun e => by rw [e, hp] at c0; cases c0
  have hp1 := b1 _ _ hne hp
  refine .inl ⟨_, .inl (SqL.of (same_new nc _ _ hp1)), ?_⟩
  rw [List.length_map]
  refine ⟨_, rfl, by omega, by omega, ?_⟩
  have e32 : ∀ k : Int, (repS " " k).cps.toList = List.replicate k.toNat 32 := fun k => repS1
  have l32 : ∀ k : Int, (repS " " k).length = k.toNat := fun k => by rw [← len_cps, e32, List.length_replicate]
  refine for_range (lo := 0) (n := zs.length) (fun i σ' H' => ∃ (line : Str) (code : Int) (y z : Option V) (gs : List (Nat × List Nat)), σ' = [some (.ref st), some (.ref p), some (.str line), some (.ref c), some (.int code), y, z] ∧ Bt st H H' ∧ DrAt H' st scr ∧
    H' c = some (.lst ((cols (1 + ld.toNat) gs).map colV)) ∧ gs.map (·.2) = (zs.take i).map (·.cps.toList) ∧ Apart gs ∧ line.cps.toList = List.replicate ld.toNat 32 ++ lay gs [] ∧ line.length ≤ 2 + 42 * i) ?_ ?_ ?_
  · refine ⟨_, _, _, _, [], rfl, b1.trans (.same (same_new nc)), hd.new (same_new nc), upd_same, rfl, trivial, ?_, ?_⟩
    · rw [e32]
      exact (List.append_nil _).symm
    · rw [l32]
      omega
  · rintro i σ' H' hi ⟨line, code, y, z, gs, rfl, bt, hd, hc, hgs, hap, hline, hll⟩
    have hp2 := bt _ _ hne hp
    obtain ⟨zi, hzi⟩ : ∃ zi, zs[i]? = some zi := ⟨zs[i], List.getElem?_eq_getElem hi⟩
    obtain ⟨zi0, zi1, zi2, zi3⟩ := hz zi (List.mem_of_getElem? hzi)
    have hgl : gs.length = i := by
      have := congrArg List.length hgs
      rw [List.length_map, List.length_map, List.length_take] at this
      omega
    refine ⟨fun σ' H' => ∃ (code : Int), σ' = [some (.ref st), some (.ref p), some (.str line), some (.ref c), some (.int code), some (.int (0 + i)), z] ∧ Bt st H H' ∧ DrAt H' st scr ∧ H' c = some (.lst ((cols (1 + ld.toNat) gs).map colV)), ?_, ?_⟩
    · refine ⟨by decide, ?_⟩
      refine ite2 (fun e => ?_) (fun e => ?_)
      · refine ⟨st, scr, _, rfl, hd, by decide, many_small (by decide) (by decide), fun r l' r0 r1 hd' => ?_⟩
        exact ⟨r, rfl, bt.trans Bt.st, hd', by rw [upd_ne cs]; exact hc⟩
      · exact ⟨code, rfl, bt, hd, hc⟩
    · rintro σ' H' ⟨code, rfl, bt, hd, hc⟩
      have hp2 := bt _ _ hne hp
      refine ⟨by decide, ?_⟩
      have g0 := Int.emod_nonneg code (by decide : (3 : Int) ≠ 0)
      have g1 := Int.emod_lt_of_pos code (by decide : (0 : Int) < 3)
      refine ⟨.inl ⟨by decide, by decide⟩, ?_⟩
      refine ⟨fun σ' H' => ∃ (code g : Int), σ' = [some (.ref st), some (.ref p), some (.str line), some (.ref c), some (.int code), some (.int (0 + i)), some (.int g)] ∧ Bt st H H' ∧ DrAt H' st scr ∧ H' c = some (.lst ((cols (1 + ld.toNat) gs).map colV)) ∧ 0 ≤ g ∧ g ≤ 2 ∧
        ∀ x, gs.getLast? = some x → g = 0 → touchB x.2 zi.cps.toList = false, ?_, ?_⟩
      · have hlast : ∀ x, gs.getLast? = some x → ∃ zj, zs[i - 1]? = some zj ∧ x.2 = zj.cps.toList ∧ 0 < i := fun x hx => by
          rw [List.getLast?_eq_getElem?, hgl] at hx
          have hi0 : 0 < i := by
            have := (List.getElem?_eq_some_iff.mp hx).1
            omega
          have h2 := congrArg (·[i - 1]?) hgs
          simp only [List.getElem?_map, hx, List.getElem?_take] at h2
          rw [if_pos (by omega)] at h2
          cases h3 : zs[i - 1]? with
          | none => rw [h3] at h2; cases h2
          | some zj => rw [h3] at h2; exact ⟨zj, rfl, Option.some.inj h2, hi0⟩
        refine ite2 (fun e => ?_) (fun e => ?_)
        · have e : code % 3 = 0 := of_decide_eq_true e
          refine ite2 (fun e2 => ?_) (fun e2 => ?_)
          · have e2 : (0 : Int) < 0 + i := of_decide_eq_true e2
            have hj : i - 1 < zs.length := by omega
            have hzj : zs[i - 1]? = some zs[i - 1] := List.getElem?_eq_getElem hj
            obtain ⟨zj0, zj1, zj2, zj3⟩ := hz _ (List.mem_of_getElem? hzj)
            refine ⟨_, .inl (SqL.of hp2), .str zs[i - 1], ?_, _, .inl (SqL.of hp2), .str zi, ?_, ?_⟩
            · rw [show (0 : Int) + i - 1 = ((i - 1 : Nat) : Int) by omega]
              exact atI_nat (by rw [List.getElem?_map, hzj]; rfl)
            · rw [show (0 : Int) + i = ((i : Nat) : Int) by omega]
              exact atI_nat (by rw [List.getElem?_map, hzi]; rfl)
            refine ⟨_, zi, rfl, zj0, by omega, zi0, by omega, zj2, zi3, fun H2 sm => ?_⟩
            have bt2 := bt.trans (Bt.same (st := st) sm)
            refine ite2 (fun e3 => ?_) (fun e3 => ?_)
            · exact ⟨_, 1, rfl, bt2, hd.new sm, sm _ _ hc, by decide, by decide, fun x hx h => absurd h (by decide)⟩
            · refine ⟨_, _, rfl, bt2, hd.new sm, sm _ _ hc, g0, by omega, fun x hx _ => ?_⟩
              obtain ⟨zj, h1, h2, _⟩ := hlast x hx
              rw [hzj] at h1
              cases h1
              rw [h2]
              exact Bool.eq_false_iff.mpr e3
          · refine ⟨_, _, rfl, bt, hd, hc, g0, by omega, fun x hx _ => ?_⟩
            obtain ⟨zj, h1, h2, h3⟩ := hlast x hx
            exact absurd (decide_eq_true (show (0 : Int) < 0 + i by omega)) e2
        · exact ⟨_, _, rfl, bt, hd, hc, g0, by omega, fun x hx h => absurd (decide_eq_true h) e⟩
      · rintro σ' H' ⟨code, g, rfl, bt, hd, hc, g0, g1, hg⟩
        have hp2 := bt _ _ hne hp
        refine ⟨by omega, by omega, by decide, ?_⟩
        refine ⟨line_of (by rw [l32]; omega), ?_⟩
        have la : (line ++ repS " " g).length = line.length + g.toNat := by rw [len_add, l32]
        have hcl : (cols (1 + ld.toNat) gs).length = i := by rw [cols_len]; exact hgl
        refine ⟨.inl ⟨rfl, _, SqL.of hc⟩, line_of (by omega), c, _, _, rfl, rfl, hc, line_lt (by rw [List.length_map, hcl]; omega), ?_⟩
        have bt3 : ∀ (o : HO), Bt st H (upd H' c o) := fun o b u nb hb => by
          rw [upd_ne (ne_of_none hb c0)]
          exact bt b u nb hb
        refine ⟨_, .inl (SqL.of (bt3 _ _ _ hne hp)), .str zi, ?_, ?_⟩
        · rw [show (0 : Int) + i = ((i : Nat) : Int) by omega]
          exact atI_nat (by rw [List.getElem?_map, hzi]; rfl)
        refine ⟨line_of (by omega), ?_⟩
        refine ⟨_, code, _, _, gs ++ [(g.toNat, zi.cps.toList)], rfl, bt3 _, hd.at cs cc, ?_, ?_, apart_snoc hap ?_ (fun x hx e => hg x hx (by omega)), ?_, ?_⟩
        · rw [upd_same, cols_snoc, List.map_append]
          have : colV (1 + ld.toNat + (lay gs []).length + g.toNat) = V.int (((line ++ repS " " g).length : Int) + 1) := by
            have : line.length = ld.toNat + (lay gs []).length := by rw [← len_cps, hline, List.length_append, List.length_replicate]
            show V.int _ = _
            congr 1
            omega
          rw [← this]
          rfl
        · rw [List.map_append, hgs, take_snoc hzi, List.map_append]
          rfl
        · intro e
          have := len_cps zi
          rw [e] at this
          have : zi.length = 0 := this.symm
          omega
        · rw [cps_add, cps_add, hline, e32, lay_snoc, List.append_assoc, List.append_assoc]
        · rw [len_add, la]
          omega
  · rintro σ' H' ⟨line, code, y, z, gs, rfl, bt, hd, hc, hgs, hap, hline, hll⟩
    refine ⟨st, scr, _, rfl, hd, by decide, many_small (by decide) (by decide), fun r l' r0 r1 hd' => ?_⟩
    refine ⟨by omega, by omega, by decide, ?_⟩
    refine ⟨line_of (by rw [l32]; omega), ?_⟩
    refine ⟨(by show 2 ≤ sizeLine; decide), fun t nt => ?_⟩
    have bt2 := bt.trans (Bt.st (st := st) (o := .lst l'))
    refine q _ t c _ ld.toNat r.toNat gs (bt2.trans (.same (same_new nt))) (hd'.new (same_new nt)) (bt2.free (hd'.ne_new nt) nt) c0 upd_same (same_new nt _ _ (by rw [upd_ne cs]; exact hc)) ?_ hap ?_ ?_
    · rw [hgs, List.take_length]
    · rw [cps_add, hline, e32, lay_tail (t := List.replicate r.toNat 32), List.append_assoc]
    · rw [len_add, l32]
      omega

/-! ### _law_words -/
def w3 (x : Rw) : List Str := [deed x.add, x.f, ((toString x.n : String) : Str)]
def wds : List Rw → List Str
  | [] => []
  | x :: r => w3 x ++ r.flatMap fun y => ("," : Str) :: w3 y
theorem wds_snoc : ∀ {xs : List Rw} {y : Rw}, xs ≠ [] → wds (xs ++ [y]) = wds xs ++ (("," : Str) :: w3 y)
  | [], _, h => absurd rfl h
  | x :: r, y, _ => by
    show w3 x ++ (r ++ [y]).flatMap _ = (w3 x ++ r.flatMap _) ++ _
    rw [List.flatMap_append, List.append_assoc]
    simp
theorem w3_len {x : Rw} : (w3 x).length = 3 := rfl
theorem wds_len : ∀ {xs : List Rw}, (wds xs).length = 4 * xs.length - 1
  | [] => rfl
  | x :: r => by
    have : ∀ l : List Rw, (l.flatMap fun y => ("," : Str) :: w3 y).length = 4 * l.length := fun l => by
      induction l with
      | nil => rfl
      | cons a r ih => rw [List.flatMap_cons, List.length_append, ih, List.length_cons, List.length_cons, w3_len]; omega
    show (w3 x ++ _).length = _
    rw [List.length_append, this, w3_len, List.length_cons]
    omega
theorem same_upd0 {H H' : Hp} {a : Addr} {o : HO} (s : Same H H') (h : H a = none) : Same H (upd H' a o) := fun b u hb => by
  rw [upd_ne (ne_of_none hb h)]
  exact s _ _ hb
def sp__law_words (K : PySem.W.Frag) : Sp := fun vs H Q _ => ∃ (p : Addr) (rs : List Addr) (xs : List Rw), vs = [.ref p] ∧ H p = some (.lst (rs.map V.ref)) ∧ RowsL H rs xs ∧ xs.length ≤ 10 ∧ (∀ x ∈ xs, RowOk x ∧ x.f.length ≤ 12) ∧
  ∀ (H' : Hp) (L : Addr), Same H H' → H L = none → H' L = some (.lst ((wds xs).map V.str)) → Q (.ref L) H'
theorem len__law_words {vs : List V} {H : Hp} {Q : VK} {E : XK} (h : sp__law_words K vs H Q E) : vs.length = 1 := by
  obtain ⟨_, _, _, rfl, _⟩ := h
  rfl
theorem ok__law_words {f : Addr} {fd : FuncData} (F : Fun K "_law_words" "_law_words" s__law_words f fd) (T : Gs K mg t_BOUND t_DIGITS t_LETTERS t_LONGEST_INTEGER t_LONGEST_NAME a_MARKS a_RESERVED a_SIGNS a_BadName a_BadNumber a_BadText a_Change a_ElseputError a_Reader a_TooLarge) : FnOk P w K mg base CX0 1 f fd ["_law_rows"] (sp__law_words K) := by
  refine F.ok sc__law_words (fun vs H Q E h => len__law_words h) (fun cdv A outer s H vs Q E hr h => ?_)
  obtain ⟨p, rs, xs, rfl, hp, hrs, lx, hok, q⟩ := h
  refine ⟨_, (pss_cons (ps_set (i := 1) sc__law_words.nd rfl (.inl rfl) (pe_lst pa_nil)) (pss_cons (ps_for PassesOwn.never rfl (pi_list (v_ 0)) (pg_name (i := 2) sc__law_words.nd rfl (.inl rfl)) (Evl.pss_cut (ps_if (pt_c op_gtM (pe_callB (lenK K) (by rfl) T.z_len PySem.boot_len (pa_cons (v_ 1) pa_nil)) pe_int) (pss_one (ps_expr (pe_bm PySem.F.plainAttrs_list PySem.F.slot_list_append PySem.F.type_list_append mt_append (v_ 1) (pa_cons pe_str pa_nil)))) pss_nil) (pss_one (ps_set (i := 1) sc__law_words.nd rfl (.inl rfl) (pe_op (addK K) (v_ 1) (pe_lst (pa_cons (e_x K (v_ 2) pe_int) (pa_cons (e_x K (v_ 2) pe_int) (pa_cons (pe_callTy call_str_int (by rfl) T.z_str (by decide +kernel) (pa_cons (e_x K (v_ 2) pe_int) pa_nil)) pa_nil))))))))) (pss_one (ps_ret (v_ 1))))), ?_⟩
  refine ⟨Nat.zero_le _, fun L nL => ?_⟩
  have sL := same_new (o := .lst []) nL
  refine ⟨p, rfl, ⟨_, SqL.of (sL _ _ hp)⟩, ?_⟩
  refine for_list (K := K) (a := p) (xs := rs.map V.ref) (fun i σ' H' => ∃ (L : Addr) (y : Option V), σ' = [some (.ref p), some (.ref L), y] ∧ Same H H' ∧ H L = none ∧ H' L = some (.lst ((wds (xs.take i)).map V.str))) ⟨_, _, rfl, sL, nL, upd_same⟩ (fun i σ' H' _ ⟨_, _, _, h, _⟩ => SqL.of (h _ _ hp)) ?_ ?_
  · rintro i v σ' H' hi ⟨L, y, rfl, sm, nL, hL⟩
    rw [List.getElem?_map] at hi
    obtain ⟨r, hr, rfl⟩ := Option.map_eq_some_iff.mp hi
    obtain ⟨x, hx, hax⟩ := hrs.get hr
    refine ⟨fun σ' H' => ∃ (L : Addr), σ' = [some (.ref p), some (.ref L), some (.ref r)] ∧ Same H H' ∧ H L = none ∧ H' L = some (.lst ((wds (xs.take i) ++ (if i = 0 then [] else [("," : Str)])).map V.str)), ?_, ?_⟩
    · refine .inl ⟨_, .inl (SqL.of hL), ?_⟩
      rw [List.length_map, wds_len, List.length_take]
      have hi2 := (List.getElem?_eq_some_iff.mp hx).1
      refine ite2 (fun e => ?_) (fun e => ?_)
      · have e : 0 < i := by
          have := of_decide_eq_true e
          omega
        refine ⟨.inl ⟨rfl, _, SqL.of hL⟩, L, _, _, rfl, rfl, hL, line_lt (by rw [List.length_map, wds_len, List.length_take]; omega), ?_⟩
        refine ⟨L, rfl, same_upd0 sm nL, nL, ?_⟩
        rw [upd_same, if_neg (by omega), List.map_append]
        rfl
      · have e : i = 0 := by
          have := of_decide_eq_false (Bool.eq_false_iff.mpr e)
          omega
        refine ⟨L, rfl, sm, nL, ?_⟩
        rw [hL, if_pos e, List.append_nil]
    · rintro σ' H' ⟨L, rfl, sm, nL, hL⟩
      have hat := sm _ _ hax
      obtain ⟨⟨_, _, hin⟩, _⟩ := hok x (List.mem_of_getElem? hx)
      have hl : (wds (xs.take i) ++ (if i = 0 then [] else [("," : Str)])).length ≤ 50 := by
        rw [List.length_append, wds_len, List.length_take]
        split
        · rw [List.length_nil]; omega
        · rw [List.length_singleton]; omega
      refine ⟨_, .inr (SqT.of hat), .str (deed x.add), rfl, _, .inr (SqT.of hat), .str x.f, rfl, _, .inr (SqT.of hat), .int x.n, rfl, x.n, rfl, inB_log hin, ?_⟩
      refine ⟨(by show 3 ≤ sizeLine; decide), fun D nD => ?_⟩
      have hne : L ≠ D := ne_of_none hL nD
      refine .inl ⟨_, _, (by rw [upd_ne hne]; exact hL), upd_same, line_of (by rw [List.length_map]; show _ + 3 ≤ _; omega), fun r2 nr2 => ?_⟩
      have sD := sm.trans (same_new (o := .lst [.str (deed x.add), .str x.f, .str ((toString x.n : String) : Str)]) nD)
      refine ⟨r2, _, rfl, sD.trans (same_new nr2), Same.free sD nr2, ?_⟩
      rw [upd_same, take_snoc hx]
      by_cases e : i = 0
      · subst e
        rfl
      · rw [wds_snoc (fun h => by have := congrArg List.length h; rw [List.length_take, List.length_nil] at this; have := (List.getElem?_eq_some_iff.mp hx).1; omega), if_neg e, List.map_append, List.map_append, List.append_assoc]
        rfl
  · rintro σ' H' ⟨L, y, rfl, sm, nL, hL⟩
    rw [List.length_map, hrs.len, List.take_length] at hL
    exact q _ _ sm nL hL
end
section
variable {P : Program} {w : World} {K : PySem.W.Frag} {mg : Str → Option Value} {base : Heap}
variable {t_BOUND t_DIGITS t_LETTERS t_LONGEST_INTEGER t_LONGEST_NAME : Tok} {a_MARKS a_RESERVED a_SIGNS a_BadName a_BadNumber a_BadText a_Change a_ElseputError a_Reader a_TooLarge : Addr}
/-! ### a laid line is split into its pieces -/
def Laid (zs : List Str) (cs : List Nat) (z : Str) : Prop := ∃ (lead tail : Nat) (gs : List (Nat × List Nat)), cs = cols (1 + lead) gs ∧ gs.map (·.2) = zs.map (·.cps.toList) ∧ Apart gs ∧ z.cps.toList = List.replicate lead 32 ++ lay gs (List.replicate tail 32) ∧ z.length ≤ 10000
theorem Laid.len {zs : List Str} {cs : List Nat} {z : Str} (h : Laid zs cs z) : cs.length = zs.length := by
  obtain ⟨l, t, gs, rfl, h1, _⟩ := h
  have := congrArg List.length h1
  rw [List.length_map, List.length_map] at this
  rw [cols_len, this]
theorem cols_le : ∀ {gs : List (Nat × List Nat)} {c x : Nat}, x ∈ cols c gs → x ≤ c + (lay gs []).length
  | [], _, _, h => nomatch h
  | (g, p) :: r, c, x, h => by
    rw [lay, List.length_append, List.length_append, List.length_replicate]
    rcases List.mem_cons.mp h with e | h
    · omega
    · have := cols_le h
      omega
theorem Laid.le {zs : List Str} {cs : List Nat} {z : Str} (h : Laid zs cs z) : ∀ c ∈ cs, c ≤ 10001 := by
  obtain ⟨l, t, gs, rfl, _, _, h4, h5⟩ := h
  intro c hc
  have := cols_le hc
  have hl := congrArg List.length h4
  rw [lay_tail, List.length_append, List.length_append, List.length_replicate, List.length_replicate, len_cps] at hl
  omega
theorem Laid.split {zs : List Str} {cs : List Nat} {z : Str} (h : Laid zs cs z) (ht : ∀ s ∈ zs, Tok s.cps.toList) : splitL z.cps.toList 1 = .ok ((zs.map (·.cps.toList)).zip cs) := by
  obtain ⟨l, t, gs, rfl, h2, h3, h4, _⟩ := h
  rw [h4, splitL_spaces, split_lay h3, h2]
  intro x hx
  have : x.2 ∈ zs.map (·.cps.toList) := by
    rw [← h2]
    exact List.mem_map.mpr ⟨x, hx, rfl⟩
  obtain ⟨s, hs, e⟩ := List.mem_map.mp this
  rw [← e]
  exact ht s hs
theorem Laid.bad {us vs : List Str} {c : Nat} {cs : List Nat} {z : Str} (h : Laid (us ++ (⟨#[c]⟩ : Str) :: vs) cs z) (ht : ∀ s ∈ us, Tok s.cps.toList) (hc : Strange c) : ∃ e, splitL z.cps.toList 1 = .error e ∧ cs[us.length]? = some e := by
  obtain ⟨l, t, gs, rfl, h2, h3, h4, _⟩ := h
  rw [List.map_append, List.map_cons] at h2
  obtain ⟨xs, r, rfl, e1, e2⟩ := List.map_eq_append_iff.mp h2
  obtain ⟨⟨g, p⟩, ys, rfl, e3, e4⟩ := List.map_eq_cons_iff.mp e2
  have e3 : p = [c] := e3
  subst e3
  have hl : xs.length = us.length := by
    have := congrArg List.length e1
    rwa [List.length_map, List.length_map] at this
  obtain ⟨e, q1, q2⟩ := split_bad (t := t) (c := 1 + l) h3 (fun x hx => by
    have : x.2 ∈ us.map (·.cps.toList) := by
      rw [← e1]
      exact List.mem_map.mpr ⟨x, hx, rfl⟩
    obtain ⟨s, hs, e⟩ := List.mem_map.mp this
    rw [← e]
    exact ht s hs) hc
  refine ⟨e, ?_, by rw [← hl]; exact q2⟩
  rw [h4, splitL_spaces]
  exact q1
def tk (zs : List Str) (j : Nat) : List Nat := (zs[j]?.map (·.cps.toList)).getD []
theorem tokAt_zip {zs : List Str} {cs : List Nat} (h : cs.length = zs.length) (j : Nat) : tokAt ((zs.map (·.cps.toList)).zip cs) j = tk zs j := by
  unfold tokAt tk
  rw [← List.getElem?_map, List.map_fst_zip (by rw [List.length_map, h]; exact Nat.le_refl _), List.getElem?_map]
def colN (cs : List Nat) (k : Nat) (e : Int) : Int := (cs[k]?.map (fun n : Nat => (n : Int))).getD e
theorem colAt_zip {zs : List Str} {cs : List Nat} (h : cs.length = zs.length) (j : Nat) (e : Int) : colAt ((zs.map (·.cps.toList)).zip cs) e j = colN cs j e := by
  unfold colAt colN
  have : ((zs.map (·.cps.toList)).zip cs).map (·.2) = cs := List.map_snd_zip (by rw [List.length_map, h]; exact Nat.le_refl _)
  conv => rhs; rw [← this, List.getElem?_map, Option.map_map]
  rfl
theorem zip_len {zs : List Str} {cs : List Nat} (h : cs.length = zs.length) : ((zs.map (·.cps.toList)).zip cs).length = zs.length := by
  rw [List.length_zip, List.length_map, h, Nat.min_self]
/-- where the line is refused -/
def Asks (zs : List Str) (k : Nat) : Prop := ((∀ s ∈ zs, Tok s.cps.toList) ∧ zs.length ≠ 0 ∧ k ≤ zs.length ∧ (∀ j, j < k → fitP j (tk zs j)) ∧ ¬ fitP k (tk zs k) ∧ (k % 4 = 3 → k ≠ zs.length)) ∨
  ∃ (us : List Str) (c : Nat) (vs : List Str), zs = us ++ (⟨#[c]⟩ : Str) :: vs ∧ us.length = k ∧ (∀ s ∈ us, Tok s.cps.toList) ∧ Strange c
theorem out_asks {zs : List Str} {cs : List Nat} {z : Str} {k : Nat} (h : Laid zs cs z) (ha : Asks zs k) : outOf z = .bad (colN cs k ((z.length : Int) + 1)) := by
  unfold outOf
  rcases ha with ⟨ht, h0, hk, hf, hb, h3⟩ | ⟨us, c, vs, rfl, rfl, ht, hc⟩
  · rw [h.split ht]
    show tOut _ _ = _
    have hz := zip_len h.len
    rw [tOut_bad (k := k) (by rw [hz]; exact h0) (by rw [hz]; exact hk) (fun j hj => by rw [tokAt_zip h.len]; exact hf j hj) (by rw [tokAt_zip h.len]; exact hb) (by rw [hz]; exact h3), colAt_zip h.len]
  · obtain ⟨e, h1, h2⟩ := h.bad ht hc
    rw [h1]
    unfold colN
    rw [h2]
    rfl
def ReadPre (z : Str) : Prop := z.length ≤ 10000 ∧ ∀ toks, splitL z.cps.toList 1 = .ok toks → TkOk toks ∧ (∀ j, TokE (tokAt toks j)) ∧ toks.length ≤ 20000
theorem pre_tok {zs : List Str} {cs : List Nat} {z : Str} (h : Laid zs cs z) (hp : ∀ s ∈ zs, s.length ≤ 40) (hl : zs.length ≤ 1000) (ht : ∀ s ∈ zs, Tok s.cps.toList) : ReadPre z := by
  refine ⟨(by obtain ⟨_, _, _, _, _, _, _, h⟩ := h; exact h), fun toks e => ?_⟩
  rw [h.split ht] at e
  cases e
  refine ⟨fun x hx => ?_, fun j => ?_, by rw [zip_len h.len]; omega⟩
  · have hx := List.of_mem_zip (a := x.1) (b := x.2) hx
    obtain ⟨s, hs, e⟩ := List.mem_map.mp hx.1
    have := hp s hs
    have := h.le _ hx.2
    rw [← e, len_cps]
    omega
  · rw [tokAt_zip h.len]
    unfold tk
    cases e : zs[j]? with
    | none => exact .inl rfl
    | some s => exact .inr (ht s (List.mem_of_getElem? e))
theorem pre_asks {zs : List Str} {cs : List Nat} {z : Str} {k : Nat} (h : Laid zs cs z) (hp : ∀ s ∈ zs, s.length ≤ 40) (hl : zs.length ≤ 1000) (ha : Asks zs k) : ReadPre z := by
  rcases ha with ⟨ht, _⟩ | ⟨us, c, vs, rfl, rfl, ht, hc⟩
  · exact pre_tok h hp hl ht
  · obtain ⟨e, h1, h2⟩ := h.bad ht hc
    exact ⟨(by obtain ⟨_, _, _, _, _, _, _, h⟩ := h; exact h), fun toks e => by rw [h1] at e; cases e⟩
/-! the words of rows -/
def fl (xs : List Rw) : List Str := xs.flatMap fun y => ("," : Str) :: w3 y
theorem fl_get : ∀ {xs : List Rw} {j : Nat} {x : Rw}, xs[j]? = some x → (fl xs)[4 * j]? = some "," ∧ (fl xs)[4 * j + 1]? = some (deed x.add) ∧ (fl xs)[4 * j + 2]? = some x.f ∧ (fl xs)[4 * j + 3]? = some ((toString x.n : String) : Str)
  | a :: r, 0, x, h => by
    cases h
    exact ⟨rfl, rfl, rfl, rfl⟩
  | a :: r, j + 1, x, h => by
    obtain ⟨h0, h1, h2, h3⟩ := fl_get (xs := r) (j := j) (x := x) (by simpa using h)
    exact ⟨h0, h1, h2, h3⟩
theorem wds_fl : ∀ {xs : List Rw} {i : Nat}, (wds xs)[i]? = (fl xs)[i + 1]?
  | [], _ => rfl
  | _ :: _, _ => rfl
theorem wds_mem {xs : List Rw} {z : Str} (h : z ∈ wds xs) : z = "," ∨ ∃ x ∈ xs, z ∈ w3 x := by
  have h : z ∈ fl xs := by
    cases xs with
    | nil => exact h
    | cons a r => exact List.mem_cons_of_mem _ h
  obtain ⟨x, hx, h⟩ := List.mem_flatMap.mp h
  rcases List.mem_cons.mp h with e | h
  · exact .inl e
  · exact .inr ⟨x, hx, h⟩
theorem deed_isL (b : Bool) : ∀ c ∈ (deed b).cps.toList, isL c = true := by cases b <;> decide +kernel
theorem name_word {z : Str} (h : isName z = true) : z.cps.toList ≠ [] ∧ ∀ c ∈ z.cps.toList, isL c = true := by
  unfold isName at h
  split at h
  · cases h
  · rename_i h1
    refine ⟨fun e => h1 ?_, fun c hc => ?_⟩
    · have := len_cps z
      rw [e] at this
      rw [← this]
      rfl
    · have := List.all_eq_true.mp h c hc
      rw [letters_cps] at this
      exact this
theorem w3_tok {x : Rw} {z : Str} (hx : RowOk x) (h : z ∈ w3 x) : Tok z.cps.toList := by
  simp only [w3, List.mem_cons, List.not_mem_nil, or_false] at h
  rcases h with rfl | rfl | rfl
  · exact .word (by cases x.add <;> decide +kernel) (deed_isL _)
  · have := name_word hx.1
    exact .word this.1 this.2
  · exact num_tok _
theorem comma_tok : Tok ("," : Str).cps.toList := .sm (by decide +kernel)
theorem wds_tok {xs : List Rw} (hok : ∀ x ∈ xs, RowOk x) {z : Str} (h : z ∈ wds xs) : Tok z.cps.toList := by
  rcases wds_mem h with rfl | ⟨x, hx, h⟩
  · exact comma_tok
  · exact w3_tok (hok x hx) h
theorem pc_tok {z : Str} (h : Tok z.cps.toList) (h1 : z.cps.toList.headD 0 ≠ 61) (h2 : z.length ≤ 40) : PcOk z := by
  have h0 := tok_ne h
  refine ⟨?_, h2, fun e => ?_, h1⟩
  · rw [← len_cps]
    exact List.length_pos_iff.mpr h0
  · rw [e] at h
    have : ∀ {p : List Nat}, Tok p → p ≠ [45] := fun {p} h => by
      cases h with
      | word h0 h =>
        intro e
        rw [e] at h
        exact absurd (h 45 List.mem_cons_self) (by decide)
      | int h0 h =>
        intro e
        rw [e] at h
        exact absurd (h 45 List.mem_cons_self) (by decide)
      | neg h0 h =>
        intro e
        injection e with _ e
        exact h0 e
      | sm h =>
        intro e
        rw [e] at h
        exact absurd h (by decide)
    exact this h rfl
theorem num_head (n : Int) : ((toString n : String) : Str).cps.toList.headD 0 ≠ 61 := by
  have h := num_tok n
  have hl := num_last n
  cases e : ((toString n : String) : Str).cps.toList with
  | nil => decide
  | cons c r =>
    rw [e] at h hl
    show c ≠ 61
    rintro rfl
    have : ∀ {p : List Nat}, Tok p → p = 61 :: r → p.getLastD 0 ≠ 61 → False := fun {p} h e hl => by
      cases h with
      | word h0 h => rw [e] at h; exact absurd (h 61 List.mem_cons_self) (by decide)
      | int h0 h => rw [e] at h; exact absurd (h 61 List.mem_cons_self) (by decide)
      | neg h0 h => injection e with e _; exact absurd e (by decide)
      | sm h =>
        have hm := sm_cases h
        rw [e] at hm hl
        simp [SG, MK] at hm
        subst hm
        exact hl rfl
    exact this h rfl (fun e => by rw [e] at hl; exact absurd hl (by decide))
theorem wds_pc {xs : List Rw} (hok : ∀ x ∈ xs, RowOk x ∧ x.f.length ≤ 12) {z : Str} (h : z ∈ wds xs) : PcOk z := by
  have ht := wds_tok (fun x hx => (hok x hx).1) h
  have wd : ∀ {p : List Nat}, (∀ c ∈ p, isL c = true) → p.headD 0 ≠ 61 := fun {p} h => by
    cases p with
    | nil => decide
    | cons c r =>
      intro e
      have e : c = 61 := e
      have := h c List.mem_cons_self
      rw [e] at this
      exact absurd this (by decide)
  rcases wds_mem h with rfl | ⟨x, hx, h⟩
  · exact pc_tok ht (by decide +kernel) (by decide +kernel)
  · obtain ⟨h1, h2⟩ := hok x hx
    have h := h
    simp only [w3, List.mem_cons, List.not_mem_nil, or_false] at h
    rcases h with rfl | rfl | rfl
    · exact pc_tok ht (wd (deed_isL _)) (by rw [deed_len]; decide)
    · exact pc_tok ht (wd (name_word h1.1).2) (by omega)
    · exact pc_tok ht (num_head _) (by have := num_short h1.2.2; omega)
theorem tk_of {zs : List Str} {j : Nat} {z : Str} (h : zs[j]? = some z) : tk zs j = z.cps.toList := by unfold tk; rw [h]; rfl
theorem deedOf_deed (b : Bool) : deedOf (deed b).cps.toList = some b := by
  unfold deedOf
  rw [mkS_self]
  cases b <;> decide +kernel
/-- what stands at each place -/
theorem wds_at {xs : List Rw} {j : Nat} {x : Rw} (h : xs[j]? = some x) : tk (wds xs) (4 * j) = (deed x.add).cps.toList ∧ tk (wds xs) (4 * j + 1) = x.f.cps.toList ∧ tk (wds xs) (4 * j + 2) = ((toString x.n : String) : Str).cps.toList := by
  obtain ⟨_, h1, h2, h3⟩ := fl_get h
  exact ⟨tk_of (by rw [wds_fl]; exact h1), tk_of (by rw [wds_fl]; exact h2), tk_of (by rw [wds_fl]; exact h3)⟩
theorem wds_comma {xs : List Rw} {j : Nat} (h : j + 1 < xs.length) : tk (wds xs) (4 * j + 3) = [44] := by
  obtain ⟨h0, _⟩ := fl_get (List.getElem?_eq_getElem h)
  exact tk_of (z := ",") (by rw [wds_fl]; exact h0)
theorem fit_wds {xs : List Rw} (hok : ∀ x ∈ xs, RowOk x) {j : Nat} (hj : j < (wds xs).length) : fitP j (tk (wds xs) j) := by
  rw [wds_len] at hj
  obtain ⟨q, r, hr, rfl⟩ : ∃ q r, r < 4 ∧ j = 4 * q + r := ⟨j / 4, j % 4, by omega, by omega⟩
  have hq : q < xs.length := by omega
  have hx := List.getElem?_eq_getElem hq
  obtain ⟨h0, h1, h2⟩ := wds_at hx
  have ok := hok _ (List.mem_of_getElem? hx)
  match r, hr with
  | 0, _ => exact ⟨fun _ => by rw [Nat.add_zero, h0, deedOf_deed]; rfl, fun h => absurd h (by omega), fun h => absurd h (by omega), fun h => absurd h (by omega)⟩
  | 1, _ => exact ⟨fun h => absurd h (by omega), fun _ => by rw [h1, mkS_self]; exact ok.1, fun h => absurd h (by omega), fun h => absurd h (by omega)⟩
  | 2, _ => exact ⟨fun h => absurd h (by omega), fun h => absurd h (by omega), fun _ => by rw [h2, rdI_num ok.2.2]; rfl, fun h => absurd h (by omega)⟩
  | 3, _ => exact ⟨fun h => absurd h (by omega), fun h => absurd h (by omega), fun h => absurd h (by omega), fun _ => wds_comma (by omega)⟩
theorem out_wds {xs : List Rw} {cs : List Nat} {z : Str} (hok : ∀ x ∈ xs, RowOk x) (h : Laid (wds xs) cs z) : outOf z = bOut (foldJ [] xs) := by
  unfold outOf
  rw [h.split fun s hs => wds_tok hok hs]
  show tOut _ _ = _
  cases xs with
  | nil => rfl
  | cons a r =>
    refine tOut_ok (M := r.length) rfl (by rw [zip_len h.len, wds_len, List.length_cons]; omega) (fun j hj => ?_) (fun j x hx => ?_)
    · rw [tokAt_zip h.len]
      exact wds_comma (by rw [List.length_cons]; omega)
    · obtain ⟨h0, h1, h2⟩ := wds_at hx
      have ok := hok _ (List.mem_of_getElem? hx)
      have := pA_e3 (toks := ((wds (a :: r)).map (·.cps.toList)).zip cs) (i := 4 * j) (b := x.add) (n := x.n) (by rw [tokAt_zip h.len, h0, deedOf_deed]) (by rw [tokAt_zip h.len, h1, mkS_self]; exact ok.1) (by rw [tokAt_zip h.len, h2, rdI_num ok.2.2])
      rw [this, tokAt_zip h.len, h1, mkS_self]
end
section
variable {P : Program} {w : World} {K : PySem.W.Frag} {mg : Str → Option Value} {base : Heap}
variable {t_BOUND t_DIGITS t_LETTERS t_LONGEST_INTEGER t_LONGEST_NAME : Tok} {a_MARKS a_RESERVED a_SIGNS a_BadName a_BadNumber a_BadText a_Change a_ElseputError a_Reader a_TooLarge : Addr}
/-! ### outcomes -/
theorem same_row {H : Hp} {r u : Addr} {x : Rw} {n : Nat} (h1 : RowAt H r x) (h2 : RowAt H u x) : SameV H (n + 2) (.ref r) (.ref u) := by
  refine .inr (.inr (.inl ⟨r, u, _, _, rfl, rfl, .inr ⟨h1, h2⟩, rfl, (by show 3 ≤ 1000; decide), fun i a b ha hb => ?_⟩))
  rw [ha] at hb
  cases hb
  match i, ha with
  | 0, ha => cases ha; exact .inr (.inl ⟨_, rfl, rfl⟩)
  | 1, ha => cases ha; exact .inr (.inl ⟨_, rfl, rfl⟩)
  | 2, ha => cases ha; exact .inl ⟨_, rfl, rfl⟩
  | i + 3, ha => cases ha
theorem same_rows {H : Hp} {n : Nat} : ∀ {rs us : List Addr} {xs : List Rw}, RowsL H rs xs → RowsL H us xs → ∀ (i : Nat) (a b : V), (rs.map V.ref)[i]? = some a → (us.map V.ref)[i]? = some b → SameV H (n + 2) a b
  | [], _, _, _, _, i, a, b, h, _ => by simp at h
  | r :: rs, [], [], h, _, _, _, _, _, _ => False.elim h
  | r :: rs, u :: us, x :: xs, ⟨h1, t1⟩, ⟨h2, t2⟩, i, a, b, ha, hb => by
    cases i with
    | zero =>
      simp at ha hb
      subst ha hb
      exact same_row h1 h2
    | succ i => exact same_rows t1 t2 i a b (by simpa using ha) (by simpa using hb)
theorem same_tup {H : Hp} {t u : Addr} {rs us : List Addr} {xs : List Rw} {n : Nat} (h1 : H t = some (.tup (rs.map V.ref))) (h2 : H u = some (.tup (us.map V.ref))) (r1 : RowsL H rs xs) (r2 : RowsL H us xs) (hl : xs.length ≤ 1000) : SameV H (n + 3) (.ref t) (.ref u) :=
  .inr (.inr (.inl ⟨t, u, _, _, rfl, rfl, .inr ⟨h1, h2⟩, by rw [List.length_map, List.length_map, r1.len, r2.len], by rw [List.length_map, r2.len]; exact hl, same_rows r1 r2⟩))
theorem same_let {H : Hp} {t t2 u v : Addr} {n : Nat} (h1 : H t = some (.tup [.str "let", .ref u])) (h2 : H t2 = some (.tup [.str "let", .ref v])) (h : SameV H (n + 1) (.ref u) (.ref v)) : SameV H (n + 2) (.ref t) (.ref t2) := by
  refine .inr (.inr (.inl ⟨t, t2, _, _, rfl, rfl, .inr ⟨h1, h2⟩, rfl, (by show 2 ≤ 1000; decide), fun i a b ha hb => ?_⟩))
  match i, ha, hb with
  | 0, ha, hb => cases ha; cases hb; exact .inr (.inl ⟨_, rfl, rfl⟩)
  | 1, ha, hb => cases ha; cases hb; exact h
  | i + 2, ha, hb => cases ha
def OutV (H : Hp) (o : Out) (t : Addr) : Prop := match o with
  | .bad c => H t = some (.tup [.str "bad", .int 1, .int c])
  | .big => H t = some (.tup [.str "large", .int 3])
  | .ok ys => ∃ (u : Addr) (rs : List Addr), H t = some (.tup [.str "let", .ref u]) ∧ H u = some (.tup (rs.map V.ref)) ∧ RowsL H rs ys ∧ ys.length ≤ 1000
theorem OutV.same {H H' : Hp} {o : Out} {t : Addr} (h : OutV H o t) (s : Same H H') : OutV H' o t := by
  cases o with
  | bad c => exact s _ _ h
  | big => exact s _ _ h
  | ok ys =>
    obtain ⟨u, rs, h1, h2, h3, h4⟩ := h
    exact ⟨u, rs, s _ _ h1, s _ _ h2, h3.same s, h4⟩
theorem outv_same {H : Hp} {o : Out} {t u : Addr} (h1 : OutV H o t) (h2 : OutV H o u) : SameV H 4 (.ref t) (.ref u) := by
  cases o with
  | bad c =>
    refine .inr (.inr (.inl ⟨t, u, _, _, rfl, rfl, .inr ⟨h1, h2⟩, rfl, (by show 3 ≤ 1000; decide), fun i a b ha hb => ?_⟩))
    rw [ha] at hb
    cases hb
    match i, ha with
    | 0, ha => cases ha; exact .inr (.inl ⟨_, rfl, rfl⟩)
    | 1, ha => cases ha; exact .inl ⟨_, rfl, rfl⟩
    | 2, ha => cases ha; exact .inl ⟨_, rfl, rfl⟩
    | i + 3, ha => cases ha
  | big =>
    refine .inr (.inr (.inl ⟨t, u, _, _, rfl, rfl, .inr ⟨h1, h2⟩, rfl, (by show 2 ≤ 1000; decide), fun i a b ha hb => ?_⟩))
    rw [ha] at hb
    cases hb
    match i, ha with
    | 0, ha => cases ha; exact .inr (.inl ⟨_, rfl, rfl⟩)
    | 1, ha => cases ha; exact .inl ⟨_, rfl, rfl⟩
    | i + 2, ha => cases ha
  | ok ys =>
    obtain ⟨a, rs, h1, h3, h5, hl⟩ := h1
    obtain ⟨b, us, h2, h4, h6, _⟩ := h2
    exact same_let h1 h2 (same_tup h3 h4 h5 h6 hl)
theorem foldJ_len : ∀ {xs acc ys : List Rw}, acc.length ≤ 3 → foldJ acc xs = some ys → ys.length ≤ 3
  | [], acc, ys, h, e => by cases e; exact h
  | x :: r, acc, ys, h, e => by
    rw [foldJ_cons] at e
    split at e
    · rename_i h2
      exact foldJ_len h2 e
    · cases e
theorem bOut_len {xs ys : List Rw} (e : bOut (foldJ [] xs) = .ok ys) : ys.length ≤ 3 := by
  cases h : foldJ [] xs with
  | none => rw [h] at e; cases e
  | some zs => rw [h] at e; cases e; exact foldJ_len (by decide) h
theorem out_len {z : Str} {ys : List Rw} (e : outOf z = .ok ys) : ys.length ≤ 3 := by
  unfold outOf at e
  split at e
  · cases e
  · unfold tOut at e
    split at e
    · cases e; decide
    · split at e
      · cases e
      · split at e
        · exact bOut_len e
        · cases e
def sp__law_read_it (K : PySem.W.Frag) : Sp := fun vs H Q _ => ∃ z : Str, vs = [.str z] ∧ ReadPre z ∧ ∀ (H' : Hp) (t : Addr), Same H H' → OutV H' (outOf z) t → Q (.ref t) H'
theorem len__law_read_it {vs : List V} {H : Hp} {Q : VK} {E : XK} (h : sp__law_read_it K vs H Q E) : vs.length = 1 := by
  obtain ⟨_, rfl, _⟩ := h
  rfl
theorem ok__law_read_it {f : Addr} {fd : FuncData} {f_Change_read : Addr} {fd_Change_read : FuncData} {p_Change_read : Addr} (F : Fun K "_law_read_it" "_law_read_it" s__law_read_it f fd) (T : Gs K mg t_BOUND t_DIGITS t_LETTERS t_LONGEST_INTEGER t_LONGEST_NAME a_MARKS a_RESERVED a_SIGNS a_BadName a_BadNumber a_BadText a_Change a_ElseputError a_Reader a_TooLarge) (c_Change_read : CalS P w K mg base (L2.CX P w) 8 a_Change p_Change_read "read" f_Change_read fd_Change_read ["line"] (sp_Change_read K)) : FnOk P w K mg base CX0 9 f fd ["_law_line"] (sp__law_read_it K) := by
  refine F.ok sc__law_read_it (fun vs H Q E h => len__law_read_it h) (fun cdv A outer s H vs Q E hr h => ?_)
  obtain ⟨z, rfl, hz, q⟩ := h
  refine ⟨_, (pss_cons (ps_try_as (i := 1) rfl rfl sc__law_read_it.nd rfl rfl ⟨rfl, by decide +kernel, .inl T.g_ElseputError⟩ takes0 (fun W pn xe tk po => (pss_one (ps_ret (pe_tup (pa_cons pe_str (pa_cons (e_f K (pe_smethS (pe_glob (v := .ref a_Change) rfl T.g_Change rfl) c_Change_read.rd c_Change_read.sm c_Change_read.G (hr.mono (by first | decide | omega)) c_Change_read.b (fun σ => passAt tk σ) (pa_cons (v_ 0) pa_nil))) pa_nil)))))) (fun ea oe ecls ed epn hz hf => (pss_cons (ps_if (PW.pt (pw_and (pt_t K (pe_callB (call_isX hz hf) (by rfl) T.z_isinstance (by decide +kernel) (pa_cons (v_ 1) (pa_cons (pe_glob (v := .ref a_BadText) rfl T.g_BadText rfl) pa_nil)))) (pw_and (pt_t K (pe_callB (call_isX hz hf) (by rfl) T.z_isinstance (by decide +kernel) (pa_cons (v_ 1) (pa_cons (pe_bltn (v := .ty "ValueError") (u := .type "ValueError") (by rfl) T.z_ValueError (by decide +kernel) rfl) pa_nil)))) (pw_and1 (pt_not (pt_t K (pe_callB (call_isX hz hf) (by rfl) T.z_isinstance (by decide +kernel) (pa_cons (v_ 1) (pa_cons (pe_glob (v := .ref a_TooLarge) rfl T.g_TooLarge rfl) pa_nil))))))))) (pss_one (ps_ret (pe_tup (pa_cons pe_str (pa_cons (pe_xf T.x_BadText.xf (T.x_BadText.no _ (by decide)) hz hf (v_ 1)) (pa_cons (pe_xf T.x_BadText.xf (T.x_BadText.no _ (by decide)) hz hf (v_ 1)) pa_nil)))))) pss_nil) (pss_one (ps_if (PW.pt (pw_and (pt_t K (pe_callB (call_isX hz hf) (by rfl) T.z_isinstance (by decide +kernel) (pa_cons (v_ 1) (pa_cons (pe_glob (v := .ref a_TooLarge) rfl T.g_TooLarge rfl) pa_nil)))) (pw_and1 (pt_not (pt_t K (pe_callB (call_isX hz hf) (by rfl) T.z_isinstance (by decide +kernel) (pa_cons (v_ 1) (pa_cons (pe_glob (v := .ref a_BadText) rfl T.g_BadText rfl) pa_nil)))))))) (pss_one (ps_ret (pe_tup (pa_cons pe_str (pa_cons (pe_xf T.x_TooLarge.xf (T.x_TooLarge.no _ (by decide)) hz hf (v_ 1)) pa_nil))))) pss_nil))))) (pss_one (ps_ret (pe_tup (pa_cons pe_str pa_nil))))), ?_⟩
  have hlen := fun ys => out_len (z := z) (ys := ys)
  refine ⟨rfl, z, rfl, hz.1, hz.2, ?_⟩
  generalize outOf z = o at q hlen ⊢
  cases o with
  | bad c =>
    intro C3 d H' hC3 sm nd hd
    cases hC3.symm.trans T.n_BadText
    refine ⟨true, T.m_BadText_ElseputError, fun _ e ne => ?_, fun h => nomatch h⟩
    refine ⟨_, d, _, _, _, true, rfl, rfl, rfl, hd, T.x_BadText.is, fun u h => h, T.k_BadText_BadText, ?_⟩
    refine ⟨_, d, _, _, _, true, rfl, rfl, rfl, hd, T.x_BadText.is, fun u h => h, T.k_BadText_ValueError, ?_⟩
    refine ⟨_, d, _, _, _, false, rfl, rfl, rfl, hd, T.x_BadText.is, fun u h => h, T.k_BadText_TooLarge, ?_⟩
    refine ⟨rfl, rfl, d, _, _, rfl, hd, rfl, rfl, rfl, d, _, _, rfl, hd, rfl, (by show 3 ≤ sizeLine; decide), fun t nt => ?_⟩
    exact q _ t (sm.trans (same_new nt)) upd_same
  | big =>
    intro C3 d H' hC3 sm nd hd
    cases hC3.symm.trans T.n_TooLarge
    refine ⟨true, T.m_TooLarge_ElseputError, fun _ e ne => ?_, fun h => nomatch h⟩
    refine ⟨_, d, _, _, _, false, rfl, rfl, rfl, hd, T.x_TooLarge.is, fun u h => h, T.k_TooLarge_BadText, ?_⟩
    refine ⟨_, d, _, _, _, true, rfl, rfl, rfl, hd, T.x_TooLarge.is, fun u h => h, T.k_TooLarge_TooLarge, ?_⟩
    refine ⟨_, d, _, _, _, false, rfl, rfl, rfl, hd, T.x_TooLarge.is, fun u h => h, T.k_TooLarge_BadText, ?_⟩
    refine ⟨rfl, rfl, d, _, _, rfl, hd, rfl, (by show 2 ≤ sizeLine; decide), fun t nt => ?_⟩
    exact q _ t (sm.trans (same_new nt)) upd_same
  | ok ys =>
    intro H' a' sm hA'
    obtain ⟨C3, dz, t3, rs3, hC3, ha3, ht3, hrs3⟩ := id hA'
    cases hC3.symm.trans T.n_Change
    refine ⟨a', a_Change, dz, _, _, rfl, ha3, T.cl_Change, T.na_Change_assignments, rfl, ?_⟩
    refine ⟨(by show 2 ≤ sizeLine; decide), fun t nt => ?_⟩
    exact q _ t (sm.trans (same_new nt)) ⟨t3, rs3, upd_same, same_new nt _ _ ht3, hrs3.same (same_new nt), by have := hlen ys rfl; omega⟩
end
section
variable {P : Program} {w : World} {K : PySem.W.Frag} {mg : Str → Option Value} {base : Heap}
variable {t_BOUND t_DIGITS t_LETTERS t_LONGEST_INTEGER t_LONGEST_NAME : Tok} {a_MARKS a_RESERVED a_SIGNS a_BadName a_BadNumber a_BadText a_Change a_ElseputError a_Reader a_TooLarge : Addr}
def sp__law_folded (K : PySem.W.Frag) : Sp := fun vs H Q _ => ∃ (p : Addr) (rs : List Addr) (xs : List Rw), vs = [.ref p] ∧ H p = some (.lst (rs.map V.ref)) ∧ RowsL H rs xs ∧ ∀ (H' : Hp) (t : Addr), Same H H' → OutV H' (bOut (foldJ [] xs)) t → Q (.ref t) H'
theorem len__law_folded {vs : List V} {H : Hp} {Q : VK} {E : XK} (h : sp__law_folded K vs H Q E) : vs.length = 1 := by
  obtain ⟨_, _, _, rfl, _⟩ := h
  rfl
theorem ok__law_folded {f : Addr} {fd : FuncData} {f__law_chained : Addr} {fd__law_chained : FuncData} (F : Fun K "_law_folded" "_law_folded" s__law_folded f fd) (T : Gs K mg t_BOUND t_DIGITS t_LETTERS t_LONGEST_INTEGER t_LONGEST_NAME a_MARKS a_RESERVED a_SIGNS a_BadName a_BadNumber a_BadText a_Change a_ElseputError a_Reader a_TooLarge) (c__law_chained : Cal P w K mg base CX0 1 "_law_chained" f__law_chained fd__law_chained ["_law_first", "_law_second"] (sp__law_chained K)) : FnOk P w K mg base CX0 2 f fd ["_law_rows"] (sp__law_folded K) := by
  refine F.ok sc__law_folded (fun vs H Q E h => len__law_folded h) (fun cdv A outer s H vs Q E hr h => ?_)
  obtain ⟨p, rs, xs, rfl, hp, hrs, q⟩ := h
  refine ⟨_, (pss_cons (ps_set (i := 1) sc__law_folded.nd rfl (.inl rfl) (pe_lst pa_nil)) (pss_cons (ps_for PassesOwn.never rfl (pi_list (v_ 0)) (pg_name (i := 2) sc__law_folded.nd rfl (.inl rfl)) (pss_cons (ps_set (i := 1) sc__law_folded.nd rfl (.inl rfl) (pe_call c__law_chained.G (hr.mono (by first | decide | omega)) rfl c__law_chained.m c__law_chained.kp c__law_chained.b .nil pass0 (pa_cons (v_ 1) (pa_cons (pe_lst (pa_cons (v_ 2) pa_nil)) pa_nil)))) (pss_one (ps_if (pt_c op_gtM (pe_callB (lenK K) (by rfl) T.z_len PySem.boot_len (pa_cons (v_ 1) pa_nil)) pe_int) (pss_one (ps_ret (pe_tup (pa_cons pe_str (pa_cons pe_int pa_nil))))) pss_nil)))) (pss_one (ps_ret (pe_tup (pa_cons pe_str (pa_cons (pe_callTy (tupleK K) (by rfl) T.z_tuple (by decide +kernel) (pa_cons (v_ 1) pa_nil)) pa_nil))))))), ?_⟩
  have hlen := fun ys => bOut_len (xs := xs) (ys := ys)
  refine ⟨Nat.zero_le _, fun L nL => ?_⟩
  have sL := same_new (o := .lst []) nL
  refine ⟨p, rfl, ⟨_, SqL.of (sL _ _ hp)⟩, ?_⟩
  refine for_list (K := K) (a := p) (xs := rs.map V.ref) (fun i σ' H' => ∃ (L : Addr) (acc : List Rw) (ts : List Addr) (y : Option V), σ' = [some (.ref p), some (.ref L), y] ∧ Same H H' ∧ H' L = some (.lst (ts.map V.ref)) ∧ RowsL H' ts acc ∧ acc.length ≤ 3 ∧ foldJ [] xs = foldJ acc (xs.drop i)) ⟨L, [], [], _, rfl, sL, upd_same, trivial, by decide, rfl⟩ (fun i σ' H' _ ⟨_, _, _, _, _, h, _⟩ => SqL.of (h _ _ hp)) ?_ ?_
  · rintro i v σ' H' hi ⟨L, acc, ts, y, rfl, sm, hL, hts, hal, hf⟩
    rw [List.getElem?_map] at hi
    obtain ⟨r, hr, rfl⟩ := Option.map_eq_some_iff.mp hi
    obtain ⟨x, hx, hax⟩ := hrs.get hr
    have hat := sm _ _ hax
    have hd : xs.drop i = x :: xs.drop (i + 1) := by
      obtain ⟨h1, h2⟩ := List.getElem?_eq_some_iff.mp hx
      rw [List.drop_eq_getElem_cons h1, h2]
    rw [hd, foldJ_cons] at hf
    refine ⟨(by show 1 ≤ sizeLine; decide), fun D nD => ?_⟩
    have sD := same_new (o := .lst [.ref r]) nD
    refine ⟨L, D, ts, [r], acc, [x], rfl, sD _ _ hL, upd_same, hts.same sD, ⟨sD _ _ hat, trivial⟩, hal, by simp, (by show 1 ≤ 3; decide), fun H2 L2 ts2 s2 n2 hL2 hts2 => ?_⟩
    have s02 := (sm.trans sD).trans s2
    refine .inl ⟨_, .inl (SqL.of hL2), ?_⟩
    rw [List.length_map, hts2.len]
    refine ite2 (fun e => ?_) (fun e => ?_)
    · have e : (3 : Int) < (joinedR acc [x]).length := of_decide_eq_true e
      rw [if_neg (by omega)] at hf
      rw [hf] at q
      refine ⟨(by show 2 ≤ sizeLine; decide), fun t nt => ?_⟩
      exact q _ t (s02.trans (same_new nt)) upd_same
    · have e : ¬ (3 : Int) < (joinedR acc [x]).length := of_decide_eq_false (Bool.eq_false_iff.mpr e)
      rw [if_pos (by omega)] at hf
      exact ⟨L2, _, ts2, _, rfl, s02, hL2, hts2, by omega, hf⟩
  · rintro σ' H' ⟨L, acc, ts, y, rfl, sm, hL, hts, hal, hf⟩
    rw [List.length_map, hrs.len, List.drop_length] at hf
    rw [hf] at q
    refine ⟨L, _, rfl, .inl ⟨SqL.of hL, fun v nv => ?_⟩⟩
    have sv := same_new (o := .tup (ts.map V.ref)) nv
    refine ⟨(by show 2 ≤ sizeLine; decide), fun t nt => ?_⟩
    have st := same_new (o := .tup [.str "let", .ref v]) nt
    exact q _ t ((sm.trans sv).trans st) ⟨v, ts, upd_same, st _ _ upd_same, (hts.same sv).same st, by omega⟩
theorem RowsL.at_st {H H' : Hp} {st scr : Addr} (hd : DrAt H st scr) (b : Bt st H H') : ∀ {rs : List Addr} {xs : List Rw}, RowsL H rs xs → RowsL H' rs xs
  | [], [], _ => trivial
  | r :: _, _ :: _, ⟨h, t⟩ => ⟨b _ _ (fun e => by
      obtain ⟨l, hl⟩ := hd.lst
      unfold RowAt at h
      rw [e, hl] at h
      cases h) h, t.at_st hd b⟩
def sp__law_lets (K : PySem.W.Frag) : Sp := fun vs H Q _ => ∃ (st scr p : Addr) (rs : List Addr) (xs : List Rw), vs = [.ref st, .ref p] ∧ DrAt H st scr ∧ H p = some (.lst (rs.map V.ref)) ∧ RowsL H rs xs ∧ p ≠ st ∧ xs.length ≤ 10 ∧ (∀ x ∈ xs, RowOk x ∧ x.f.length ≤ 12) ∧ ∀ H', Bt st H H' → DrAt H' st scr → Q (.bl true) H'
theorem len__law_lets {vs : List V} {H : Hp} {Q : VK} {E : XK} (h : sp__law_lets K vs H Q E) : vs.length = 2 := by
  obtain ⟨_, _, _, _, _, rfl, _⟩ := h
  rfl
theorem ok__law_lets {f : Addr} {fd : FuncData} {f__law_laid : Addr} {fd__law_laid : FuncData} {f__law_same : Addr} {fd__law_same : FuncData} {f__law_words : Addr} {fd__law_words : FuncData} {f__law_read_it : Addr} {fd__law_read_it : FuncData} {f__law_folded : Addr} {fd__law_folded : FuncData} (F : Fun K "_law_lets" "_law_lets" s__law_lets f fd) (T : Gs K mg t_BOUND t_DIGITS t_LETTERS t_LONGEST_INTEGER t_LONGEST_NAME a_MARKS a_RESERVED a_SIGNS a_BadName a_BadNumber a_BadText a_Change a_ElseputError a_Reader a_TooLarge) (c__law_laid : Cal P w K mg base CX0 2 "_law_laid" f__law_laid fd__law_laid ["_law_state_here", "_law_pieces"] (sp__law_laid K)) (c__law_same : Cal P w K mg base CX0 6 "_law_same" f__law_same fd__law_same ["_law_actual", "_law_due"] (sp__law_same K)) (c__law_words : Cal P w K mg base CX0 1 "_law_words" f__law_words fd__law_words ["_law_rows"] (sp__law_words K)) (c__law_read_it : Cal P w K mg base CX0 9 "_law_read_it" f__law_read_it fd__law_read_it ["_law_line"] (sp__law_read_it K)) (c__law_folded : Cal P w K mg base CX0 2 "_law_folded" f__law_folded fd__law_folded ["_law_rows"] (sp__law_folded K)) : FnOk P w K mg base CX0 10 f fd ["_law_state_here", "_law_rows"] (sp__law_lets K) := by
  refine F.ok sc__law_lets (fun vs H Q E h => len__law_lets h) (fun cdv A outer s H vs Q E hr h => ?_)
  obtain ⟨st, scr, p, rs, xs, rfl, hd, hp, hrs, pst, hl, hok, q⟩ := h
  refine ⟨_, (pss_cons (ps_asg (pe_call c__law_laid.G (hr.mono (by first | decide | omega)) rfl c__law_laid.m c__law_laid.kp c__law_laid.b .nil pass0 (pa_cons (v_ 0) (pa_cons (pe_call c__law_words.G (hr.mono (by first | decide | omega)) rfl c__law_words.m c__law_words.kp c__law_words.b .nil pass0 (pa_cons (v_ 1) pa_nil)) pa_nil))) (pg_tup (by rfl) (pgs_cons (pg_name (i := 2) sc__law_lets.nd rfl (.inl rfl)) (pgs_cons (pg_name (i := 3) sc__law_lets.nd rfl (.inl rfl)) pgs_nil)))) (pss_one (ps_ret (pe_call c__law_same.G (hr.mono (by first | decide | omega)) rfl c__law_same.m c__law_same.kp c__law_same.b .nil pass0 (pa_cons (pe_call c__law_read_it.G (hr.mono (by first | decide | omega)) rfl c__law_read_it.m c__law_read_it.kp c__law_read_it.b .nil pass0 (pa_cons (v_ 2) pa_nil)) (pa_cons (pe_call c__law_folded.G (hr.mono (by first | decide | omega)) rfl c__law_folded.m c__law_folded.kp c__law_folded.b .nil pass0 (pa_cons (v_ 1) pa_nil)) pa_nil)))))), ?_⟩
  refine ⟨p, rs, xs, rfl, hp, hrs, hl, hok, fun H1 L s1 nL hL => ?_⟩
  have hok1 : ∀ x ∈ xs, RowOk x := fun x hx => (hok x hx).1
  refine ⟨st, scr, L, _, rfl, hd.new s1, hL, hd.ne_new nL, by rw [wds_len]; omega, fun z hz => wds_pc hok hz, fun H2 t c line lead tail gs b2 hd2 nt nc ht hc hgs hap hline hll => ?_⟩
  have lay : Laid (wds xs) (cols (1 + lead) gs) line := ⟨lead, tail, gs, rfl, hgs, hap, hline, hll⟩
  have b1 := (Bt.same (st := st) s1).trans b2
  have ps : p ≠ st := pst
  refine ⟨t, _, rfl, SqT.of ht, rfl, _, _, rfl, _, _, rfl, rfl, ?_⟩
  refine ⟨line, rfl, pre_tok lay (fun z hz => (wds_pc hok hz).2.1) (by rw [wds_len]; omega) (fun z hz => wds_tok hok1 hz), fun H3 t3 s3 o3 => ?_⟩
  rw [out_wds hok1 lay] at o3
  have hp3 := s3 _ _ (b1 _ _ pst hp)
  have hrs3 : RowsL H3 rs xs := (hrs.at_st hd b1).same s3
  refine ⟨p, rs, xs, rfl, hp3, hrs3, fun H4 t4 s4 o4 => ?_⟩
  exact ⟨_, _, rfl, outv_same (o3.same s4) o4, q _ ((b1.trans (.same s3)).trans (.same s4)) ((hd2.new s3).new s4)⟩
def sp__law_asks (K : PySem.W.Frag) : Sp := fun vs H Q _ => ∃ (st scr p : Addr) (zs : List Str) (m : Nat), vs = [.ref st, .ref p, .int (m : Int)] ∧ DrAt H st scr ∧ H p = some (.lst (zs.map V.str)) ∧ p ≠ st ∧ zs.length ≤ 100 ∧ (∀ z ∈ zs, PcOk z) ∧ Asks zs (min m zs.length) ∧ ∀ H', Bt st H H' → DrAt H' st scr → Q (.bl true) H'
theorem len__law_asks {vs : List V} {H : Hp} {Q : VK} {E : XK} (h : sp__law_asks K vs H Q E) : vs.length = 3 := by
  obtain ⟨_, _, _, _, _, rfl, _⟩ := h
  rfl
theorem ok__law_asks {f : Addr} {fd : FuncData} {f__law_laid : Addr} {fd__law_laid : FuncData} {f__law_same : Addr} {fd__law_same : FuncData} {f__law_read_it : Addr} {fd__law_read_it : FuncData} (F : Fun K "_law_asks" "_law_asks" s__law_asks f fd) (T : Gs K mg t_BOUND t_DIGITS t_LETTERS t_LONGEST_INTEGER t_LONGEST_NAME a_MARKS a_RESERVED a_SIGNS a_BadName a_BadNumber a_BadText a_Change a_ElseputError a_Reader a_TooLarge) (c__law_laid : Cal P w K mg base CX0 2 "_law_laid" f__law_laid fd__law_laid ["_law_state_here", "_law_pieces"] (sp__law_laid K)) (c__law_same : Cal P w K mg base CX0 6 "_law_same" f__law_same fd__law_same ["_law_actual", "_law_due"] (sp__law_same K)) (c__law_read_it : Cal P w K mg base CX0 9 "_law_read_it" f__law_read_it fd__law_read_it ["_law_line"] (sp__law_read_it K)) : FnOk P w K mg base CX0 10 f fd ["_law_state_here", "_law_words_here", "_law_at"] (sp__law_asks K) := by
  refine F.ok sc__law_asks (fun vs H Q E h => len__law_asks h) (fun cdv A outer s H vs Q E hr h => ?_)
  obtain ⟨st, scr, p, zs, m, rfl, hd, hp, pst, hl, hz, hA, q⟩ := h
  refine ⟨_, (pss_cons (ps_asg (pe_call c__law_laid.G (hr.mono (by first | decide | omega)) rfl c__law_laid.m c__law_laid.kp c__law_laid.b .nil pass0 (pa_cons (v_ 0) (pa_cons (v_ 1) pa_nil))) (pg_tup (by rfl) (pgs_cons (pg_name (i := 3) sc__law_asks.nd rfl (.inl rfl)) (pgs_cons (pg_name (i := 4) sc__law_asks.nd rfl (.inl rfl)) pgs_nil)))) (pss_cons (ps_if (pt_c op_ltM (v_ 2) (pe_callB (lenK K) (by rfl) T.z_len PySem.boot_len (pa_cons (v_ 1) pa_nil))) (pss_one (ps_ret (pe_call c__law_same.G (hr.mono (by first | decide | omega)) rfl c__law_same.m c__law_same.kp c__law_same.b .nil pass0 (pa_cons (pe_call c__law_read_it.G (hr.mono (by first | decide | omega)) rfl c__law_read_it.m c__law_read_it.kp c__law_read_it.b .nil pass0 (pa_cons (v_ 3) pa_nil)) (pa_cons (pe_tup (pa_cons pe_str (pa_cons pe_int (pa_cons (e_x K (v_ 4) (v_ 2)) pa_nil)))) pa_nil))))) pss_nil) (pss_one (ps_ret (pe_call c__law_same.G (hr.mono (by first | decide | omega)) rfl c__law_same.m c__law_same.kp c__law_same.b .nil pass0 (pa_cons (pe_call c__law_read_it.G (hr.mono (by first | decide | omega)) rfl c__law_read_it.m c__law_read_it.kp c__law_read_it.b .nil pass0 (pa_cons (v_ 3) pa_nil)) (pa_cons (pe_tup (pa_cons pe_str (pa_cons pe_int (pa_cons (pe_op (addK K) (pe_callB (lenK K) (by rfl) T.z_len PySem.boot_len (pa_cons (v_ 3) pa_nil)) pe_int) pa_nil)))) pa_nil))))))), ?_⟩
  refine ⟨st, scr, p, zs, rfl, hd, hp, pst, hl, hz, fun H2 t c line lead tail gs b2 hd2 nt nc ht hc hgs hap hline hll => ?_⟩
  have lay : Laid zs (cols (1 + lead) gs) line := ⟨lead, tail, gs, rfl, hgs, hap, hline, hll⟩
  have pre := pre_asks lay (fun z h => (hz z h).2.1) (by omega) hA
  have out := out_asks lay hA
  have cl := lay.len
  refine ⟨t, _, rfl, SqT.of ht, rfl, _, _, rfl, _, _, rfl, rfl, ?_⟩
  refine .inl ⟨_, .inl (SqL.of (b2 _ _ pst hp)), ?_⟩
  rw [List.length_map]
  refine ite2 (fun e => ?_) (fun e => ?_)
  · have e : (m : Int) < zs.length := of_decide_eq_true e
    have e : m < zs.length := by omega
    rw [Nat.min_eq_left (by omega)] at out
    refine ⟨line, rfl, pre, fun H3 t3 s3 o3 => ?_⟩
    rw [out] at o3
    have hcm : (cols (1 + lead) gs)[m]? = some (cols (1 + lead) gs)[m] := List.getElem?_eq_getElem (by omega)
    refine ⟨_, .inl (SqL.of (s3 _ _ hc)), colV (cols (1 + lead) gs)[m], atI_nat (by rw [List.getElem?_map, hcm]; rfl), ?_⟩
    refine ⟨(by show 3 ≤ sizeLine; decide), fun u nu => ?_⟩
    have su := same_new (o := .tup [.str "bad", .int 1, colV (cols (1 + lead) gs)[m]]) nu
    refine ⟨_, _, rfl, outv_same (o3.same su) ?_, q _ ((b2.trans (.same s3)).trans (.same su)) ((hd2.new s3).new su)⟩
    unfold colN
    rw [hcm]
    exact upd_same
  · have e : ¬ (m : Int) < zs.length := of_decide_eq_false (Bool.eq_false_iff.mpr e)
    rw [Nat.min_eq_right (by omega)] at out
    refine ⟨line, rfl, pre, fun H3 t3 s3 o3 => ?_⟩
    rw [out] at o3
    refine ⟨line_of (by omega), (by show 3 ≤ sizeLine; decide), fun u nu => ?_⟩
    have su := same_new (o := .tup [.str "bad", .int 1, .int ((line.length : Int) + 1)]) nu
    refine ⟨_, _, rfl, outv_same (o3.same su) ?_, q _ ((b2.trans (.same s3)).trans (.same su)) ((hd2.new s3).new su)⟩
    unfold colN
    rw [List.getElem?_eq_none (by omega)]
    exact upd_same
end
section
variable {P : Program} {w : World} {K : PySem.W.Frag} {mg : Str → Option Value} {base : Heap}
variable {t_BOUND t_DIGITS t_LETTERS t_LONGEST_INTEGER t_LONGEST_NAME : Tok} {a_MARKS a_RESERVED a_SIGNS a_BadName a_BadNumber a_BadText a_Change a_ElseputError a_Reader a_TooLarge : Addr}
/-! ### what fits nowhere -/
def tokB (p : List Nat) : Bool := (!p.isEmpty && p.all isL) || (!p.isEmpty && p.all isD) || (match p with | 45 :: r => !r.isEmpty && r.all isD | _ => false) || inSM p
theorem tok_of {p : List Nat} (h : tokB p = true) : Tok p := by
  unfold tokB at h
  rw [Bool.or_eq_true, Bool.or_eq_true, Bool.or_eq_true] at h
  have ne : ∀ {q : List Nat}, (!q.isEmpty) = true → q ≠ [] := fun {q} h e => by rw [e] at h; cases h
  rcases h with ((h | h) | h) | h
  · rw [Bool.and_eq_true] at h
    exact .word (ne h.1) (List.all_eq_true.mp h.2)
  · rw [Bool.and_eq_true] at h
    exact .int (ne h.1) (List.all_eq_true.mp h.2)
  · split at h
    · rw [Bool.and_eq_true] at h
      exact .neg (ne h.1) (List.all_eq_true.mp h.2)
    · cases h
  · exact .sm h
def bad2 (z : Str) : Bool := match PySem.intText? z with
  | none => true
  | some n => !decide (((toString n : String) : Str) = z) || !inB n
theorem bad2_rd {z : Str} (hl : z.length ≤ 40) (h : bad2 z = true) : rdI z.cps.toList = none := by
  cases e : rdI z.cps.toList with
  | none => rfl
  | some n =>
    obtain ⟨h1, h2⟩ := rdI_spec e
    rw [mkS_self] at h1
    have h3 := num_reads' (i := n) (by rw [← h1]; omega)
    rw [← h1] at h3
    unfold bad2 at h
    rw [h3] at h
    have h : (!decide (((toString n : String) : Str) = z) || !inB n) = true := h
    rw [decide_eq_true h1.symm, h2] at h
    cases h
def chk (k : Nat) (z : Str) : Bool := tokB z.cps.toList && decide (z.length ≤ 40) && decide (z.cps.toList.headD 0 ≠ 61) && (match k with
  | 0 => !decide (z = "add") && !decide (z = "set")
  | 1 => !isName z
  | 2 => bad2 z
  | _ => decide (z.cps.toList ≠ [44]))
theorem fitP_mod {i k : Nat} {p : List Nat} (hk : k < 4) : fitP (4 * i + k) p ↔ fitP k p := by
  unfold fitP
  rw [show (4 * i + k) % 4 = k % 4 by omega]
def Unf (k : Nat) (z : Str) : Prop := Tok z.cps.toList ∧ PcOk z ∧ ¬ fitP k z.cps.toList
theorem unf_of {k : Nat} {z : Str} (hk : k < 4) (h : chk k z = true) : Unf k z := by
  unfold chk at h
  rw [Bool.and_eq_true, Bool.and_eq_true, Bool.and_eq_true, decide_eq_true_iff, decide_eq_true_iff] at h
  obtain ⟨⟨⟨h1, h2⟩, h3⟩, h4⟩ := h
  have t := tok_of h1
  refine ⟨t, pc_tok t h3 h2, fun ⟨f0, f1, f2, f3⟩ => ?_⟩
  match k, hk with
  | 0, _ =>
    have h4 : (!decide (z = "add") && !decide (z = "set")) = true := h4
    have f := f0 rfl
    unfold deedOf at f
    rw [mkS_self] at f
    rw [Bool.and_eq_true, Bool.not_eq_true', Bool.not_eq_true', decide_eq_false_iff_not, decide_eq_false_iff_not] at h4
    rw [if_neg h4.1, if_neg h4.2] at f
    cases f
  | 1, _ =>
    have h4 : (!isName z) = true := h4
    have f := f1 rfl
    rw [mkS_self] at f
    rw [f] at h4
    cases h4
  | 2, _ =>
    have f := f2 rfl
    rw [bad2_rd h2 h4] at f
    cases f
  | 3, _ => exact of_decide_eq_true (show decide (z.cps.toList ≠ [44]) = true from h4) (f3 rfl)
def far : Str := ((toString (1000000000000000000000000000001 : Int) : String) : Str)
def unfL : Nat → List Str
  | 0 => ["n", "change", "5", "<", "(", ",", ";", ":", "and", "when", "take", "abcdefghijklm"]
  | 1 => ["add", "set", "keys", "5", "-5", "<", ",", ";", "never", "abcdefghijklm"]
  | 2 => ["01", "-0", "00", "-07", far, "-" ++ far, "n", "add", ",", "<", ";"]
  | _ => [";", ":", "n", "5", "add", "set", "and", "(", ")", "when", "abcdefghijklm"]
theorem unfL_chk : ∀ k, k < 4 → (unfL k).all (chk k) = true
  | 0, _ => by decide +kernel
  | 1, _ => by decide +kernel
  | 2, _ => by decide +kernel
  | 3, _ => by decide +kernel
theorem unfL_len : ∀ k, k < 4 → 0 < (unfL k).length ∧ (unfL k).length ≤ 12
  | 0, _ => by decide
  | 1, _ => by decide
  | 2, _ => by decide
  | 3, _ => by decide
theorem unfL_ok {k : Nat} (hk : k < 4) {z : Str} (h : z ∈ unfL k) : Unf k z := unf_of hk (List.all_eq_true.mp (unfL_chk k hk) z h)
def sp__law_unfit (K : PySem.W.Frag) : Sp := fun vs H Q _ => ∃ k : Nat, vs = [.int (k : Int)] ∧ k < 4 ∧ ∀ (H' : Hp) (p : Addr), Same H H' → H p = none → H' p = some (.lst ((unfL k).map V.str)) → Q (.ref p) H'
theorem len__law_unfit {vs : List V} {H : Hp} {Q : VK} {E : XK} (h : sp__law_unfit K vs H Q E) : vs.length = 1 := by
  obtain ⟨_, rfl, _⟩ := h
  rfl
theorem ok__law_unfit {f : Addr} {fd : FuncData} (F : Fun K "_law_unfit" "_law_unfit" s__law_unfit f fd) (T : Gs K mg t_BOUND t_DIGITS t_LETTERS t_LONGEST_INTEGER t_LONGEST_NAME a_MARKS a_RESERVED a_SIGNS a_BadName a_BadNumber a_BadText a_Change a_ElseputError a_Reader a_TooLarge) : FnOk P w K mg base CX0 1 f fd ["_law_at"] (sp__law_unfit K) := by
  refine F.ok sc__law_unfit (fun vs H Q E h => len__law_unfit h) (fun cdv A outer s H vs Q E hr h => ?_)
  obtain ⟨k, rfl, hk, q⟩ := h
  refine ⟨_, (pss_cons (ps_set (i := 1) sc__law_unfit.nd rfl (.inl rfl) (pe_callTy call_str_int (by rfl) T.z_str (by decide +kernel) (pa_cons (pe_op (addK K) (pe_op op_powM pe_int pe_int) pe_int) pa_nil))) (pss_cons (ps_if (pt_c (eqK K hr.units) (v_ 0) pe_int) (pss_one (ps_ret (pe_lst (pa_cons pe_str (pa_cons pe_str (pa_cons pe_str (pa_cons pe_str (pa_cons pe_str (pa_cons pe_str (pa_cons pe_str (pa_cons pe_str (pa_cons pe_str (pa_cons pe_str (pa_cons pe_str (pa_cons pe_str pa_nil))))))))))))))) pss_nil) (pss_cons (ps_if (pt_c (eqK K hr.units) (v_ 0) pe_int) (pss_one (ps_ret (pe_lst (pa_cons pe_str (pa_cons pe_str (pa_cons pe_str (pa_cons pe_str (pa_cons pe_str (pa_cons pe_str (pa_cons pe_str (pa_cons pe_str (pa_cons pe_str (pa_cons pe_str pa_nil))))))))))))) pss_nil) (pss_cons (ps_if (pt_c (eqK K hr.units) (v_ 0) pe_int) (pss_one (ps_ret (pe_lst (pa_cons pe_str (pa_cons pe_str (pa_cons pe_str (pa_cons pe_str (pa_cons (v_ 1) (pa_cons (pe_op (addK K) pe_str (v_ 1)) (pa_cons pe_str (pa_cons pe_str (pa_cons pe_str (pa_cons pe_str (pa_cons pe_str pa_nil)))))))))))))) pss_nil) (pss_one (ps_ret (pe_lst (pa_cons pe_str (pa_cons pe_str (pa_cons pe_str (pa_cons pe_str (pa_cons pe_str (pa_cons pe_str (pa_cons pe_str (pa_cons pe_str (pa_cons pe_str (pa_cons pe_str (pa_cons pe_str pa_nil)))))))))))))))))), ?_⟩
  refine ⟨(by unfold CPow; decide), ?_⟩
  refine ⟨1000000000000000000000000000001, congrArg (fun i => [V.int i]) (by decide +kernel), by decide +kernel, ?_⟩
  match k, hk with
  | 0, _ => exact ⟨(by show 12 ≤ sizeLine; decide), fun p np => q _ p (same_new np) np upd_same⟩
  | 1, _ => exact ⟨(by show 10 ≤ sizeLine; decide), fun p np => q _ p (same_new np) np upd_same⟩
  | 2, _ => exact ⟨line_of (by decide +kernel), (by show 11 ≤ sizeLine; decide), fun p np => q _ p (same_new np) np upd_same⟩
  | 3, _ => exact ⟨(by show 11 ≤ sizeLine; decide), fun p np => q _ p (same_new np) np upd_same⟩
end
section
variable {P : Program} {w : World} {K : PySem.W.Frag} {mg : Str → Option Value} {base : Heap}
variable {t_BOUND t_DIGITS t_LETTERS t_LONGEST_INTEGER t_LONGEST_NAME : Tok} {a_MARKS a_RESERVED a_SIGNS a_BadName a_BadNumber a_BadText a_Change a_ElseputError a_Reader a_TooLarge : Addr}
/-! ### spoiled lines -/
theorem nofit_nil {k : Nat} : ¬ fitP k [] := by
  rintro ⟨f0, f1, f2, f3⟩
  have h : k % 4 = 0 ∨ k % 4 = 1 ∨ k % 4 = 2 ∨ k % 4 = 3 := by omega
  rcases h with h | h | h | h
  · exact absurd (f0 h) (by decide +kernel)
  · exact absurd (f1 h) (by decide +kernel)
  · have f := f2 h
    have e : rdI [] = none := bad2_rd (z := "") (by decide +kernel) (by decide +kernel)
    rw [e] at f
    cases f
  · exact absurd (f3 h) (by decide)
theorem tk_take {zs : List Str} {k j : Nat} (h : j < k) : tk (zs.take k) j = tk zs j := by unfold tk; rw [List.getElem?_take, if_pos h]
theorem tk_end {zs : List Str} {j : Nat} (h : zs.length ≤ j) : tk zs j = [] := by unfold tk; rw [List.getElem?_eq_none h]; rfl
theorem tk_left {zs ws : List Str} {j : Nat} (h : j < zs.length) : tk (zs ++ ws) j = tk zs j := by unfold tk; rw [List.getElem?_append_left h]
theorem asks_cut {xs : List Rw} {k : Nat} (hok : ∀ x ∈ xs, RowOk x) (h3 : k % 4 ≠ 3) (h0 : 0 < k) (hk : k ≤ (wds xs).length) : Asks ((wds xs).take k) k := by
  have hl : ((wds xs).take k).length = k := by rw [List.length_take]; omega
  refine .inl ⟨fun s hs => wds_tok hok (List.mem_of_mem_take hs), by omega, by omega, fun j hj => ?_, ?_, fun h => absurd h h3⟩
  · rw [tk_take hj]
    exact fit_wds hok (by omega)
  · rw [tk_end (by omega)]
    exact nofit_nil
theorem asks_unf {xs : List Rw} {i r : Nat} {u : Str} (hok : ∀ x ∈ xs, RowOk x) (hr : r < 4) (hi : i < xs.length) (hu : Unf r u) : Asks ((wds xs).take (4 * i + r) ++ u :: (wds xs).drop (4 * i + r + 1)) (4 * i + r) := by
  have hw := wds_len (xs := xs)
  have hl : ((wds xs).take (4 * i + r)).length = 4 * i + r := by rw [List.length_take]; omega
  refine .inl ⟨fun s hs => ?_, ?_, ?_, fun j hj => ?_, ?_, fun _ => ?_⟩
  · rcases List.mem_append.mp hs with h | h
    · exact wds_tok hok (List.mem_of_mem_take h)
    · rcases List.mem_cons.mp h with e | h
      · rw [e]; exact hu.1
      · exact wds_tok hok (List.mem_of_mem_drop h)
  · rw [List.length_append, List.length_cons]; omega
  · rw [List.length_append, List.length_cons]; omega
  · rw [tk_left (by omega), tk_take hj]
    exact fit_wds hok (by omega)
  · have : tk ((wds xs).take (4 * i + r) ++ u :: (wds xs).drop (4 * i + r + 1)) (4 * i + r) = u.cps.toList := tk_of (by rw [List.getElem?_append_right (by omega), hl, Nat.sub_self]; rfl)
    rw [this]
    exact fun h => hu.2.2 ((fitP_mod hr).mp h)
  · rw [List.length_append, List.length_cons]; omega
theorem asks_bad {sp : List Str} {s c : Nat} (ht : ∀ z ∈ sp, Tok z.cps.toList) (hs : s ≤ sp.length) (hc : Strange c) : Asks (sp.take s ++ (⟨#[c]⟩ : Str) :: sp.drop s) s :=
  .inr ⟨sp.take s, c, sp.drop s, rfl, by rw [List.length_take]; omega, fun z hz => ht z (List.mem_of_mem_take hz), hc⟩
def others : Str := "\n\"#$&'*+./?@ABCDEFGHIJKLMNOPQRSTUVWXYZ[\\]^_`{|}~"
theorem others_ok {c : Nat} (h : c ∈ others.cps.toList) : Strange c ∧ PcOk (⟨#[c]⟩ : Str) := by
  have a : others.cps.toList.all (fun c => !isL c && !isD c && !decide (c = 32) && !inSM [c] && !decide (c = 45) && !decide (c = 61)) = true := by decide +kernel
  have b := List.all_eq_true.mp a c h
  simp only [Bool.and_eq_true, Bool.not_eq_true', decide_eq_false_iff_not] at b
  obtain ⟨⟨⟨⟨⟨b1, b2⟩, b3⟩, b4⟩, b5⟩, b6⟩ := b
  refine ⟨⟨b1, b2, b3, b4⟩, by show 0 < 1; decide, by show 1 ≤ 40; decide, fun e => b5 ?_, b6⟩
  have e : [c] = [45] := e
  injection e
theorem strs_mid {a b : List Str} {u : Str} : (a.map V.str ++ [V.str u]) ++ b.map V.str = (a ++ u :: b).map V.str := by
  rw [List.map_append, List.map_cons, List.append_assoc]
  rfl
theorem via {G A : Hp → Prop} {R : Prop} (main : (∀ H', A H' → G H') → R) (cont : ∀ H', A H' → G H') : R := main cont
def sp__law_spoils (K : PySem.W.Frag) : Sp := fun vs H Q _ => ∃ (st scr p : Addr) (xs : List Rw) (i : Nat), vs = [.ref st, .ref p, .int (i : Int)] ∧ DrAt H st scr ∧ H p = some (.lst ((wds xs).map V.str)) ∧ p ≠ st ∧ (∀ x ∈ xs, RowOk x ∧ x.f.length ≤ 12) ∧ i < xs.length ∧ xs.length ≤ 10 ∧ ∀ H', Bt st H H' → DrAt H' st scr → Q (.bl true) H'
theorem len__law_spoils {vs : List V} {H : Hp} {Q : VK} {E : XK} (h : sp__law_spoils K vs H Q E) : vs.length = 3 := by
  obtain ⟨_, _, _, _, _, rfl, _⟩ := h
  rfl
theorem ok__law_spoils {f : Addr} {fd : FuncData} {f__law_draw : Addr} {fd__law_draw : FuncData} {f__law_asks : Addr} {fd__law_asks : FuncData} {f__law_pick : Addr} {fd__law_pick : FuncData} {f__law_unfit : Addr} {fd__law_unfit : FuncData} (F : Fun K "_law_spoils" "_law_spoils" s__law_spoils f fd) (T : Gs K mg t_BOUND t_DIGITS t_LETTERS t_LONGEST_INTEGER t_LONGEST_NAME a_MARKS a_RESERVED a_SIGNS a_BadName a_BadNumber a_BadText a_Change a_ElseputError a_Reader a_TooLarge) (c__law_draw : Cal P w K mg base CX0 1 "_law_draw" f__law_draw fd__law_draw ["_law_state_here", "_law_many"] (sp__law_draw K)) (c__law_asks : Cal P w K mg base CX0 10 "_law_asks" f__law_asks fd__law_asks ["_law_state_here", "_law_words_here", "_law_at"] (sp__law_asks K)) (c__law_pick : Cal P w K mg base CX0 2 "_law_pick" f__law_pick fd__law_pick ["_law_state_here", "_law_row"] (sp__law_pick K)) (c__law_unfit : Cal P w K mg base CX0 1 "_law_unfit" f__law_unfit fd__law_unfit ["_law_at"] (sp__law_unfit K)) : FnOk P w K mg base CX0 11 f fd ["_law_state_here", "_law_words_here", "_law_i"] (sp__law_spoils K) := by
  refine F.ok sc__law_spoils (fun vs H Q E h => len__law_spoils h) (fun cdv A outer s H vs Q E hr h => ?_)
  obtain ⟨st, scr, p, xs, i, rfl, hd, hp, pst, hok, hi, hl, q⟩ := h
  have hok1 : ∀ x ∈ xs, RowOk x := fun x hx => (hok x hx).1
  have hw := wds_len (xs := xs)
  have cm : CMul 4 (i : Int) ∨ CMulW 4 (i : Int) := .inl (.inl ⟨by decide, by decide⟩)
  refine ⟨_, (pss_cons (ps_set (i := 3) sc__law_spoils.nd rfl (.inl rfl) pe_str) (pss_cons (ps_for PassesOwn.never rfl (pi_range1 rfl T.z_range (pa_cons pe_int pa_nil)) (pg_name (i := 4) sc__law_spoils.nd rfl (.inl rfl)) (pss_cons (ps_if (PW.pt (pw_and (pt_c op_ltM (v_ 4) pe_int) (pw_and (pt_c op_gtM (pe_op (addK K) (pe_op op_mulSM pe_int (v_ 2)) (v_ 4)) pe_int) (pw_and1 (pt_not (pt_t K (pe_call c__law_asks.G (hr.mono (by first | decide | omega)) rfl c__law_asks.m c__law_asks.kp c__law_asks.b .nil pass0 (pa_cons (v_ 0) (pa_cons (pe_slice (slK K) (v_ 1) po_none (po_some (pe_op (addK K) (pe_op op_mulSM pe_int (v_ 2)) (v_ 4)))) (pa_cons (pe_callB (lenK K) (by rfl) T.z_len PySem.boot_len (pa_cons (v_ 1) pa_nil)) pa_nil)))))))))) (pss_one (ps_ret pe_bl)) pss_nil) (pss_cons (ps_for PassesOwn.never rfl (pi_range1 rfl T.z_range (pa_cons pe_int pa_nil)) (pg_name (i := 5) sc__law_spoils.nd rfl (.inl rfl)) (pss_cons (ps_set (i := 7) sc__law_spoils.nd rfl (.inl rfl) (pe_op (addK K) (pe_op (addK K) (pe_slice (slK K) (v_ 1) po_none (po_some (pe_op (addK K) (pe_op op_mulSM pe_int (v_ 2)) (v_ 4)))) (pe_lst (pa_cons (pe_call c__law_pick.G (hr.mono (by first | decide | omega)) rfl c__law_pick.m c__law_pick.kp c__law_pick.b .nil pass0 (pa_cons (v_ 0) (pa_cons (pe_call c__law_unfit.G (hr.mono (by first | decide | omega)) rfl c__law_unfit.m c__law_unfit.kp c__law_unfit.b .nil pass0 (pa_cons (v_ 4) pa_nil)) pa_nil))) pa_nil))) (pe_slice (slK K) (v_ 1) (po_some (pe_op (addK K) (pe_op (addK K) (pe_op op_mulSM pe_int (v_ 2)) (v_ 4)) pe_int)) po_none))) (pss_one (ps_if (pt_not (pt_t K (pe_call c__law_asks.G (hr.mono (by first | decide | omega)) rfl c__law_asks.m c__law_asks.kp c__law_asks.b .nil pass0 (pa_cons (v_ 0) (pa_cons (v_ 7) (pa_cons (pe_op (addK K) (pe_op op_mulSM pe_int (v_ 2)) (v_ 4)) pa_nil)))))) (pss_one (ps_ret pe_bl)) pss_nil)))) (pss_cons (ps_set (i := 6) sc__law_spoils.nd rfl (.inl rfl) (pe_call c__law_draw.G (hr.mono (by first | decide | omega)) rfl c__law_draw.m c__law_draw.kp c__law_draw.b .nil pass0 (pa_cons (v_ 0) (pa_cons (pe_op (addK K) (pe_callB (lenK K) (by rfl) T.z_len PySem.boot_len (pa_cons (v_ 1) pa_nil)) pe_int) pa_nil)))) (pss_one (ps_if (pt_not (pt_t K (pe_call c__law_asks.G (hr.mono (by first | decide | omega)) rfl c__law_asks.m c__law_asks.kp c__law_asks.b .nil pass0 (pa_cons (v_ 0) (pa_cons (pe_op (addK K) (pe_op (addK K) (pe_slice (slK K) (v_ 7) po_none (po_some (v_ 6))) (pe_lst (pa_cons (pe_call c__law_pick.G (hr.mono (by first | decide | omega)) rfl c__law_pick.m c__law_pick.kp c__law_pick.b .nil pass0 (pa_cons (v_ 0) (pa_cons (v_ 3) pa_nil))) pa_nil))) (pe_slice (slK K) (v_ 7) (po_some (v_ 6)) po_none)) (pa_cons (v_ 6) pa_nil)))))) (pss_one (ps_ret pe_bl)) pss_nil)))))) (pss_one (ps_ret pe_bl)))), ?_⟩
  refine ⟨4, rfl, by decide, by decide, ?_⟩
  refine for_range (lo := 0) (n := 4) (fun r σ' H' => ∃ (y4 y5 y6 y7 : Option V), σ' = [some (.ref st), some (.ref p), some (.int (i : Int)), some (.str others), y4, y5, y6, y7] ∧ Bt st H H' ∧ DrAt H' st scr) ⟨_, _, _, _, rfl, Bt.refl _ _, hd⟩ ?_ ?_
  · rintro r σ' H' hr ⟨y4, y5, y6, y7, rfl, bt, hd⟩
    refine via (G := ?G) (A := fun H' => Bt st H H' ∧ DrAt H' st scr) (fun cont => ?main) ?rest
    case main =>
      refine ite2 (fun e => ?_) (fun e => ?_)
      · have e : (0 + r : Int) < 3 := of_decide_eq_true e
        refine ⟨cm, ?_⟩
        refine ite2 (fun e2 => ?_) (fun e2 => ?_)
        · have e2 : (0 : Int) < 4 * i + (0 + r) := of_decide_eq_true e2
          have hp1 := bt _ _ pst hp
          refine ⟨cm, 4 * (i : Int) + (0 + r), rfl, .inl ⟨_, SqL.of hp1, fun u nu => ?_⟩⟩
          rw [cutV_take _ (by omega), ← List.map_take, show (4 * (i : Int) + (0 + (r : Int))).toNat = 4 * i + r by omega]
          have su := same_new (o := .lst (((wds xs).take (4 * i + r)).map V.str)) nu
          refine .inl ⟨_, .inl (SqL.of (su _ _ hp1)), st, scr, u, (wds xs).take (4 * i + r), (wds xs).length, by rw [List.length_map]; rfl, hd.new su, upd_same, hd.ne_new nu, by rw [List.length_take]; omega, fun z hz => wds_pc hok (List.mem_of_mem_take hz), ?_, fun H2 b2 hd2 => ?_⟩
          · rw [show min (wds xs).length ((wds xs).take (4 * i + r)).length = 4 * i + r by rw [List.length_take]; omega]
            exact asks_cut hok1 (by omega) (by omega) (by omega)
          · exact cont H2 ⟨(bt.trans (.same su)).trans b2, hd2⟩
        · exact cont H' ⟨bt, hd⟩
      · exact cont H' ⟨bt, hd⟩
    case rest =>
      rintro H' ⟨bt, hd⟩
      refine ⟨2, rfl, by decide, by decide, ?_⟩
      refine for_range (lo := 0) (n := 2) (fun k σ' H' => ∃ (y5 y7 : Option V), σ' = [some (.ref st), some (.ref p), some (.int (i : Int)), some (.str others), some (.int (0 + r)), y5, y6, y7] ∧ Bt st H H' ∧ DrAt H' st scr ∧ (k = 0 ∨ ∃ (sp : Addr) (zs : List Str), y7 = some (.ref sp) ∧ sp ≠ st ∧ H' sp = some (.lst (zs.map V.str)) ∧ (∀ z ∈ zs, Tok z.cps.toList ∧ PcOk z) ∧ (wds xs).length ≤ zs.length ∧ zs.length ≤ 60)) ⟨_, _, rfl, bt, hd, .inl rfl⟩ ?_ ?_
      · rintro k σ' H' hk ⟨y5, y7, rfl, bt, hd, _⟩
        have hp1 := bt _ _ pst hp
        refine ⟨cm, 4 * (i : Int) + (0 + r), rfl, .inl ⟨_, SqL.of hp1, fun u nu => ?_⟩⟩
        rw [cutV_take _ (by omega), ← List.map_take, show (4 * (i : Int) + (0 + (r : Int))).toNat = 4 * i + r by omega]
        have us := hd.ne_new nu
        have su := same_new (o := .lst (((wds xs).take (4 * i + r)).map V.str)) nu
        have bt1 := bt.trans (.same su)
        have hd1 := hd.new su
        have hu1 := upd_same (H := H') (a := u) (o := .lst (((wds xs).take (4 * i + r)).map V.str))
        have hp1 := su _ _ hp1
        generalize upd H' u (.lst (((wds xs).take (4 * i + r)).map V.str)) = H1 at hd1 bt1 hu1 hp1 ⊢
        refine ⟨r, by rw [Int.zero_add]; rfl, hr, fun H2 v s2 nv hv => ?_⟩
        have vs : v ≠ st := hd1.ne_new nv
        refine ⟨st, scr, _, rfl, hd1.new s2, .inr ⟨v, _, rfl, hv, vs, ?_, ?_, fun x l hx hd3 => ?_⟩⟩
        · rw [List.length_map]; exact (unfL_len r hr).1
        · rw [List.length_map]; have := (unfL_len r hr).2; omega
        obtain ⟨w, hw2, rfl⟩ := List.mem_map.mp hx
        have hU := unfL_ok hr hw2
        have bt3 := (bt1.trans (.same s2)).trans (Bt.st (st := st) (o := .lst l))
        have hu3 : upd H2 st (.lst l) u = some (.lst (((wds xs).take (4 * i + r)).map V.str)) := by rw [upd_ne us]; exact s2 _ _ hu1
        have hp3 : upd H2 st (.lst l) p = some (.lst ((wds xs).map V.str)) := by rw [upd_ne pst]; exact s2 _ _ hp1
        generalize upd H2 st (.lst l) = H3 at hd3 bt3 hu3 hp3 ⊢
        refine ⟨(by show 1 ≤ sizeLine; decide), fun d nd => ?_⟩
        have sd := same_new (o := .lst [V.str w]) nd
        have tl : ((wds xs).take (4 * i + r)).length = 4 * i + r := by rw [List.length_take]; omega
        refine .inl ⟨_, _, sd _ _ hu3, upd_same, line_of (by rw [List.length_map, tl]; show _ + 1 ≤ _; omega), fun e ne => ?_⟩
        have sde := sd.trans (same_new (o := .lst (((wds xs).take (4 * i + r)).map V.str ++ [V.str w])) ne)
        have es : e ≠ st := hd3.ne_new (Same.free sd ne)
        have he4 := upd_same (H := upd H3 d (.lst [V.str w])) (a := e) (o := .lst (((wds xs).take (4 * i + r)).map V.str ++ [V.str w]))
        have hd4 := hd3.new sde
        have bt4 := bt3.trans (.same sde)
        have hp4 := sde _ _ hp3
        generalize upd (upd H3 d (.lst [V.str w])) e (.lst (((wds xs).take (4 * i + r)).map V.str ++ [V.str w])) = H4 at he4 hd4 bt4 hp4 ⊢
        refine ⟨cm, 4 * (i : Int) + (0 + r) + 1, rfl, .inl ⟨_, SqL.of hp4, fun f nf => ?_⟩⟩
        rw [cutV_drop _ (by omega), ← List.map_drop, show (4 * (i : Int) + (0 + (r : Int)) + 1).toNat = 4 * i + r + 1 by omega]
        have sf := same_new (o := .lst (((wds xs).drop (4 * i + r + 1)).map V.str)) nf
        have dl : ((wds xs).drop (4 * i + r + 1)).length ≤ 40 := by rw [List.length_drop]; omega
        have zl : ((wds xs).take (4 * i + r) ++ w :: (wds xs).drop (4 * i + r + 1)).length ≤ 60 := by rw [List.length_append, List.length_cons, tl, List.length_drop]; omega
        have zl2 : (wds xs).length ≤ ((wds xs).take (4 * i + r) ++ w :: (wds xs).drop (4 * i + r + 1)).length := by rw [List.length_append, List.length_cons, tl, List.length_drop]; omega
        have zl3 : 4 * i + r < ((wds xs).take (4 * i + r) ++ w :: (wds xs).drop (4 * i + r + 1)).length := by rw [List.length_append, List.length_cons, tl]; omega
        have zt : ∀ z ∈ (wds xs).take (4 * i + r) ++ w :: (wds xs).drop (4 * i + r + 1), Tok z.cps.toList ∧ PcOk z := fun z hz => by
          rcases List.mem_append.mp hz with h | h
          · exact ⟨wds_tok hok1 (List.mem_of_mem_take h), wds_pc hok (List.mem_of_mem_take h)⟩
          · rcases List.mem_cons.mp h with e | h
            · rw [e]; exact ⟨hU.1, hU.2.1⟩
            · exact ⟨wds_tok hok1 (List.mem_of_mem_drop h), wds_pc hok (List.mem_of_mem_drop h)⟩
        have hA := asks_unf hok1 hr hi hU
        refine .inl ⟨_, _, sf _ _ he4, upd_same, line_of (by rw [List.length_append, List.length_map, List.length_map, tl]; show _ + 1 + _ ≤ _; omega), fun g ng => ?_⟩
        rw [strs_mid]
        generalize (wds xs).take (4 * i + r) ++ w :: (wds xs).drop (4 * i + r + 1) = zs at zl zl2 zl3 zt hA ⊢
        have sfg := sf.trans (same_new (o := .lst (zs.map V.str)) ng)
        have gs : g ≠ st := hd4.ne_new (Same.free sf ng)
        refine ⟨cm, st, scr, g, zs, 4 * i + r, by rw [show ((4 * i + r : Nat) : Int) = 4 * (i : Int) + (0 + r) by omega]; rfl, hd4.new sfg, upd_same, gs, by omega, fun z hz => (zt z hz).2, by rw [Nat.min_eq_left (by omega)]; exact hA, fun H6 b6 hd6 => ?_⟩
        exact ⟨_, _, rfl, (bt4.trans (.same sfg)).trans b6, hd6, .inr ⟨g, zs, rfl, gs, b6 _ _ gs upd_same, zt, zl2, zl⟩⟩
      · rintro σ' H' ⟨y5, y7, rfl, bt, hd, h7⟩
        obtain ⟨sp, zs, rfl, sps, hsp, hzs, hlo, hhi⟩ := h7.resolve_left (by decide)
        have hp1 := bt _ _ pst hp
        refine .inl ⟨_, .inl (SqL.of hp1), st, scr, _, rfl, hd, by omega, many_small (by omega) (by rw [List.length_map]; omega), fun s l s0 s1 hd1 => ?_⟩
        rw [List.length_map] at s1
        have bt1 := bt.trans (Bt.st (st := st) (o := .lst l))
        have hsp1 : upd H' st (.lst l) sp = some (.lst (zs.map V.str)) := by rw [upd_ne sps]; exact hsp
        generalize upd H' st (.lst l) = H1 at hd1 bt1 hsp1 ⊢
        obtain ⟨s, rfl⟩ := Int.eq_ofNat_of_zero_le s0
        refine ⟨(s : Int), rfl, .inl ⟨_, SqL.of hsp1, fun u nu => ?_⟩⟩
        rw [cutV_take _ (by omega), ← List.map_take, show ((s : Int)).toNat = s by omega]
        have us := hd1.ne_new nu
        have su := same_new (o := .lst ((zs.take s).map V.str)) nu
        have bt2 := bt1.trans (.same su)
        have hd2 := hd1.new su
        have hu2 := upd_same (H := H1) (a := u) (o := .lst ((zs.take s).map V.str))
        have hsp2 := su _ _ hsp1
        generalize upd H1 u (.lst ((zs.take s).map V.str)) = H2 at hd2 bt2 hu2 hsp2 ⊢
        refine ⟨st, scr, _, rfl, hd2, .inl ⟨others, rfl, by decide +kernel, by decide +kernel, fun c l hc hd3 => ?_⟩⟩
        obtain ⟨hS, hP⟩ := others_ok hc
        have bt3 := bt2.trans (Bt.st (st := st) (o := .lst l))
        have hu3 : upd H2 st (.lst l) u = some (.lst ((zs.take s).map V.str)) := by rw [upd_ne us]; exact hu2
        have hsp3 : upd H2 st (.lst l) sp = some (.lst (zs.map V.str)) := by rw [upd_ne sps]; exact hsp2
        generalize upd H2 st (.lst l) = H3 at hd3 bt3 hu3 hsp3 ⊢
        refine ⟨(by show 1 ≤ sizeLine; decide), fun d nd => ?_⟩
        have sd := same_new (o := .lst [V.str ⟨#[c]⟩]) nd
        have tl : (zs.take s).length ≤ 60 := by rw [List.length_take]; omega
        refine .inl ⟨_, _, sd _ _ hu3, upd_same, line_of (by rw [List.length_map]; show _ + 1 ≤ _; omega), fun e ne => ?_⟩
        have sde := sd.trans (same_new (o := .lst ((zs.take s).map V.str ++ [V.str ⟨#[c]⟩])) ne)
        have he4 := upd_same (H := upd H3 d (.lst [V.str ⟨#[c]⟩])) (a := e) (o := .lst ((zs.take s).map V.str ++ [V.str ⟨#[c]⟩]))
        have hd4 := hd3.new sde
        have bt4 := bt3.trans (.same sde)
        have hsp4 := sde _ _ hsp3
        generalize upd (upd H3 d (.lst [V.str ⟨#[c]⟩])) e (.lst ((zs.take s).map V.str ++ [V.str ⟨#[c]⟩])) = H4 at he4 hd4 bt4 hsp4 ⊢
        refine ⟨(s : Int), rfl, .inl ⟨_, SqL.of hsp4, fun f nf => ?_⟩⟩
        rw [cutV_drop _ (by omega), ← List.map_drop, show ((s : Int)).toNat = s by omega]
        have sf := same_new (o := .lst ((zs.drop s).map V.str)) nf
        have dl : (zs.drop s).length ≤ 60 := by rw [List.length_drop]; omega
        refine .inl ⟨_, _, sf _ _ he4, upd_same, line_of (by rw [List.length_append, List.length_map, List.length_map]; show _ + 1 + _ ≤ _; omega), fun g ng => ?_⟩
        rw [strs_mid]
        have hA := asks_bad (sp := zs) (s := s) (c := c) (fun z hz => (hzs z hz).1) (by omega) hS
        have zl : (zs.take s ++ (⟨#[c]⟩ : Str) :: zs.drop s).length ≤ 100 := by rw [List.length_append, List.length_cons, List.length_take, List.length_drop]; omega
        have zl2 : s ≤ (zs.take s ++ (⟨#[c]⟩ : Str) :: zs.drop s).length := by rw [List.length_append, List.length_cons, List.length_take]; omega
        have zt : ∀ z ∈ zs.take s ++ (⟨#[c]⟩ : Str) :: zs.drop s, PcOk z := fun z hz => by
          rcases List.mem_append.mp hz with h | h
          · exact (hzs z (List.mem_of_mem_take h)).2
          · rcases List.mem_cons.mp h with e | h
            · rw [e]; exact hP
            · exact (hzs z (List.mem_of_mem_drop h)).2
        generalize zs.take s ++ (⟨#[c]⟩ : Str) :: zs.drop s = ws at hA zl zl2 zt ⊢
        have sfg := sf.trans (same_new (o := .lst (ws.map V.str)) ng)
        have gs : g ≠ st := hd4.ne_new (Same.free sf ng)
        refine ⟨st, scr, g, ws, s, rfl, hd4.new sfg, upd_same, gs, zl, zt, by rw [Nat.min_eq_left zl2]; exact hA, fun H6 b6 hd6 => ?_⟩
        exact ⟨_, _, _, _, rfl, (bt4.trans (.same sfg)).trans b6, hd6⟩
  · rintro σ' H' ⟨y4, y5, y6, y7, rfl, bt, hd⟩
    exact q _ bt hd
end
section
variable {P : Program} {w : World} {K : PySem.W.Frag} {mg : Str → Option Value} {base : Heap}
variable {t_BOUND t_DIGITS t_LETTERS t_LONGEST_INTEGER t_LONGEST_NAME : Tok} {a_MARKS a_RESERVED a_SIGNS a_BadName a_BadNumber a_BadText a_Change a_ElseputError a_Reader a_TooLarge : Addr}
/-! ### the text of a change is a laid line -/
def g3 (g : Nat) (x : Rw) : List (Nat × List Nat) := [(g, (deed x.add).cps.toList), (1, x.f.cps.toList), (1, ((toString x.n : String) : Str).cps.toList)]
def glr : List Rw → List (Nat × List Nat)
  | [] => []
  | y :: r => (0, [44]) :: (g3 1 y ++ glr r)
def gl : List Rw → List (Nat × List Nat)
  | [] => []
  | x :: r => g3 0 x ++ glr r
theorem sp_cps : (" " : Str).cps.toList = [32] := by decide +kernel
theorem cm_cps : (", " : Str).cps.toList = [44, 32] := by decide +kernel
theorem ltxt_cps {x : Rw} : (ltxt x).cps.toList = lay (g3 0 x) [] := by
  unfold ltxt
  rw [cps_add, cps_add, cps_add, cps_add, sp_cps]
  simp [g3, lay]
theorem lay_app : ∀ {a b : List (Nat × List Nat)} {t : List Nat}, lay (a ++ b) t = lay a (lay b t)
  | [], _, _ => rfl
  | (g, p) :: r, b, t => by rw [List.cons_append, lay, lay_app, lay]
theorem jt_lay : ∀ {r : List Rw} {x : Rw}, (jtxt (x :: r)).cps.toList = lay (gl (x :: r)) []
  | [], x => by
    show (ltxt x).cps.toList = lay (g3 0 x ++ []) []
    rw [List.append_nil]
    exact ltxt_cps
  | y :: r, x => by
    have ih := jt_lay (r := r) (x := y)
    have e : jtxt (x :: y :: r) = ltxt x ++ ", " ++ jtxt (y :: r) := rfl
    rw [e, cps_add, cps_add, ih, ltxt_cps, cm_cps]
    show _ = lay (g3 0 x ++ ((0, [44]) :: (g3 1 y ++ glr r))) []
    rw [lay_app, lay_tail (gs := g3 0 x) (t := lay ((0, [44]) :: (g3 1 y ++ glr r)) []), List.append_assoc]
    rfl
theorem ap_glr : ∀ {r : List Rw} {g : Nat} {p : List Nat}, (∀ x ∈ r, RowOk x) → Apart ((g, p) :: glr r)
  | [], _, _, _ => trivial
  | y :: r, g, p, h => by
    have hy := h y List.mem_cons_self
    have t : touchB p [44] = false := by
      unfold touchB
      rw [show [44].headD 0 = 44 from rfl, show isL 44 = false by decide, show isD 44 = false by decide, decide_eq_false (show ¬ (44 : Nat) = 61 by decide)]
      simp
    have n1 : (deed y.add).cps.toList ≠ [] := tok_ne (w3_tok hy List.mem_cons_self)
    have n2 : y.f.cps.toList ≠ [] := (name_word hy.1).1
    have n3 : ((toString y.n : String) : Str).cps.toList ≠ [] := tok_ne (num_tok _)
    exact ⟨fun _ => t, by simp, fun h => absurd h (by decide), n1, fun h => absurd h (by decide), n2, fun h => absurd h (by decide), n3, ap_glr fun x hx => h x (List.mem_cons_of_mem _ hx)⟩
theorem glr_map : ∀ {r : List Rw}, (glr r).map (·.2) = (r.flatMap fun y => ("," : Str) :: w3 y).map (·.cps.toList)
  | [] => rfl
  | y :: r => by
    have ih := glr_map (r := r)
    rw [List.flatMap_cons, List.map_append, ← ih]
    rfl
theorem jt_len : ∀ {xs : List Rw}, (∀ x ∈ xs, RowOk x ∧ x.f.length ≤ 12) → (jtxt xs).length ≤ 52 * xs.length
  | [], _ => Nat.le_refl _
  | [x], h => by
    have := ltxt_len (h x List.mem_cons_self).1 (h x List.mem_cons_self).2
    show (ltxt x).length ≤ 52
    omega
  | x :: y :: r, h => by
    have h1 := ltxt_len (h x List.mem_cons_self).1 (h x List.mem_cons_self).2
    have ih := jt_len (xs := y :: r) fun z hz => h z (List.mem_cons_of_mem _ hz)
    have e : jtxt (x :: y :: r) = ltxt x ++ ", " ++ jtxt (y :: r) := rfl
    rw [e, len_add, len_add, cm_len, List.length_cons]
    omega
theorem jt_laid {xs : List Rw} (hok : ∀ x ∈ xs, RowOk x ∧ x.f.length ≤ 12) (hl : xs.length ≤ 10) : Laid (wds xs) (cols (1 + 0) (gl xs)) (jtxt xs) := by
  have hlen := jt_len hok
  refine ⟨0, 0, gl xs, rfl, ?_, ?_, ?_, by omega⟩
  · cases xs with
    | nil => rfl
    | cons x r =>
      show (g3 0 x ++ glr r).map _ = (w3 x ++ r.flatMap _).map _
      rw [List.map_append, List.map_append, glr_map]
      rfl
  · cases xs with
    | nil => trivial
    | cons x r =>
      have hx := (hok x List.mem_cons_self).1
      have n2 : x.f.cps.toList ≠ [] := (name_word hx.1).1
      have n3 : ((toString x.n : String) : Str).cps.toList ≠ [] := tok_ne (num_tok _)
      exact ⟨fun h => absurd h (by decide), n2, fun h => absurd h (by decide), n3, ap_glr fun y hy => (hok y (List.mem_cons_of_mem _ hy)).1⟩
  · cases xs with
    | nil => rfl
    | cons x r => exact jt_lay
theorem foldJ_nodup : ∀ {xs acc : List Rw}, ((acc ++ xs).map (·.f)).Nodup → (acc ++ xs).length ≤ 3 → foldJ acc xs = some (acc ++ xs)
  | [], acc, _, _ => by rw [List.append_nil]; rfl
  | x :: r, acc, h, hl => by
    have e : acc ++ x :: r = (acc ++ [x]) ++ r := by rw [List.append_assoc]; rfl
    have hn : x.f ∉ acc.map (·.f) := fun hx => by
      rw [List.map_append, List.nodup_append] at h
      exact h.2.2 _ hx x.f (by rw [List.map_cons]; exact List.mem_cons_self) rfl
    have hj := joined_one hn
    rw [foldJ_cons, hj, if_pos (by rw [List.length_append] at hl ⊢; rw [List.length_cons] at hl; rw [List.length_singleton]; omega), e]
    rw [e] at h hl
    exact foldJ_nodup h hl
theorem good_ok {xs : List Rw} (g : Good xs) : ∀ x ∈ xs, RowOk x ∧ x.f.length ≤ 12 := fun x hx => by
  obtain ⟨h1, h2, h3⟩ := g.1 x hx
  exact ⟨⟨h1, by omega, inB_of h3.1 h3.2⟩, h2⟩
theorem foldJ_good {xs : List Rw} (g : Good xs) : foldJ [] xs = some xs := foldJ_nodup (acc := []) g.2.1 g.2.2
end
section
variable {P : Program} {w : World} {K : PySem.W.Frag} {mg : Str → Option Value} {base : Heap}
variable {t_BOUND t_DIGITS t_LETTERS t_LONGEST_INTEGER t_LONGEST_NAME : Tok} {a_MARKS a_RESERVED a_SIGNS a_BadName a_BadNumber a_BadText a_Change a_ElseputError a_Reader a_TooLarge : Addr}
theorem asks_comma {ys : List Rw} (hok : ∀ x ∈ ys, RowOk x) (hl : ys.length = 4) : Asks (wds ys ++ [(",":Str)]) 16 := by
  have hw := wds_len (xs := ys)
  have hlen : (wds ys ++ [(",":Str)]).length = 16 := by rw [List.length_append, hw, hl]; rfl
  refine .inl ⟨fun s hs => ?_, by omega, by omega, fun j hj => ?_, ?_, fun h => absurd h (by decide)⟩
  · rcases List.mem_append.mp hs with h | h
    · exact wds_tok hok h
    · rw [List.mem_singleton.mp h]; exact comma_tok
  · by_cases h : j < (wds ys).length
    · rw [tk_left h]
      exact fit_wds hok h
    · have e : j = 15 := by omega
      subst e
      have : tk (wds ys ++ [(",":Str)]) 15 = [44] := tk_of (z := ",") (by rw [List.getElem?_append_right (by omega), hw, hl]; rfl)
      rw [this]
      exact ⟨fun h => absurd h (by decide), fun h => absurd h (by decide), fun h => absurd h (by decide), fun _ => rfl⟩
  · rw [tk_end (by omega)]
    exact nofit_nil
def spLaw (K : PySem.W.Frag) : Sp := fun vs H Q _ => ∃ (a : Addr) (ns : List Int), vs = [.ref a] ∧ SqL K H a (ns.map V.int) ∧ ns.length ≤ 63 ∧ ∀ H', Q (.bl true) H'
abbrev sp_law := spLaw
theorem len_law {vs : List V} {H : Hp} {Q : VK} {E : XK} (h : sp_law K vs H Q E) : vs.length = 1 := by
  obtain ⟨_, _, rfl, _⟩ := h
  rfl
theorem ok_law {f : Addr} {fd : FuncData} {f__law_state : Addr} {fd__law_state : FuncData} {f__law_names : Addr} {fd__law_names : FuncData} {f__law_some_rows : Addr} {fd__law_some_rows : FuncData} {f__law_change : Addr} {fd__law_change : FuncData} {f__law_rows_text : Addr} {fd__law_rows_text : FuncData} {f__law_spoils : Addr} {fd__law_spoils : FuncData} {f__law_words : Addr} {fd__law_words : FuncData} {f__law_asks : Addr} {fd__law_asks : FuncData} {f__law_draw : Addr} {fd__law_draw : FuncData} {f__law_same : Addr} {fd__law_same : FuncData} {f__law_lets : Addr} {fd__law_lets : FuncData} {f__law_read_it : Addr} {fd__law_read_it : FuncData} {f__law_pick : Addr} {fd__law_pick : FuncData} {f__law_constant : Addr} {fd__law_constant : FuncData} {f_Change_text : Addr} {fd_Change_text : FuncData} (F : Fun K "law" "law" s_law f fd) (T : Gs K mg t_BOUND t_DIGITS t_LETTERS t_LONGEST_INTEGER t_LONGEST_NAME a_MARKS a_RESERVED a_SIGNS a_BadName a_BadNumber a_BadText a_Change a_ElseputError a_Reader a_TooLarge) (c__law_state : Cal P w K mg base CX0 1 "_law_state" f__law_state fd__law_state ["_law_script"] (sp__law_state K)) (c__law_names : Cal P w K mg base CX0 2 "_law_names" f__law_names fd__law_names ["_law_state_here", "_law_many"] (sp__law_names K)) (c__law_some_rows : Cal P w K mg base CX0 4 "_law_some_rows" f__law_some_rows fd__law_some_rows ["_law_state_here", "_law_fields"] (sp__law_some_rows K)) (c__law_change : Cal P w K mg base CX0 5 "_law_change" f__law_change fd__law_change ["_law_rows"] (sp__law_change K)) (c__law_rows_text : Cal P w K mg base CX0 1 "_law_rows_text" f__law_rows_text fd__law_rows_text ["_law_rows"] (sp__law_rows_text K)) (c__law_spoils : Cal P w K mg base CX0 11 "_law_spoils" f__law_spoils fd__law_spoils ["_law_state_here", "_law_words_here", "_law_i"] (sp__law_spoils K)) (c__law_words : Cal P w K mg base CX0 1 "_law_words" f__law_words fd__law_words ["_law_rows"] (sp__law_words K)) (c__law_asks : Cal P w K mg base CX0 10 "_law_asks" f__law_asks fd__law_asks ["_law_state_here", "_law_words_here", "_law_at"] (sp__law_asks K)) (c__law_draw : Cal P w K mg base CX0 1 "_law_draw" f__law_draw fd__law_draw ["_law_state_here", "_law_many"] (sp__law_draw K)) (c__law_same : Cal P w K mg base CX0 6 "_law_same" f__law_same fd__law_same ["_law_actual", "_law_due"] (sp__law_same K)) (c__law_lets : Cal P w K mg base CX0 10 "_law_lets" f__law_lets fd__law_lets ["_law_state_here", "_law_rows"] (sp__law_lets K)) (c__law_read_it : Cal P w K mg base CX0 9 "_law_read_it" f__law_read_it fd__law_read_it ["_law_line"] (sp__law_read_it K)) (c__law_pick : Cal P w K mg base CX0 2 "_law_pick" f__law_pick fd__law_pick ["_law_state_here", "_law_row"] (sp__law_pick K)) (c__law_constant : Cal P w K mg base CX0 3 "_law_constant" f__law_constant fd__law_constant ["_law_state_here"] (sp__law_constant K)) (c_Change_text : CalM P w K mg base CX0 1 a_Change "text" f_Change_text fd_Change_text ["self"] (sp_Change_text K)) : FnOk P w K mg base CX0 12 f fd ["_law_script"] (sp_law K) := by
  refine F.ok sc_law (fun vs H Q E h => len_law h) (fun cdv A outer s H vs Q E hr h => ?_)
  obtain ⟨a, ns, rfl, hS, hl, q⟩ := h
  refine ⟨_, (pss_cons (ps_set (i := 1) sc_law.nd rfl (.inl rfl) (pe_call c__law_state.G (hr.mono (by first | decide | omega)) rfl c__law_state.m c__law_state.kp c__law_state.b .nil pass0 (pa_cons (v_ 0) pa_nil))) (pss_cons (ps_set (i := 2) sc_law.nd rfl (.inr rfl) (pe_call c__law_names.G (hr.mono (by first | decide | omega)) rfl c__law_names.m c__law_names.kp c__law_names.b .nil pass0 (pa_cons (v_ 1) (pa_cons pe_int pa_nil)))) (pss_cons (ps_set (i := 3) sc_law.nd rfl (.inl rfl) (pe_call c__law_some_rows.G (hr.mono (by first | decide | omega)) rfl c__law_some_rows.m c__law_some_rows.kp c__law_some_rows.b .nil pass0 (pa_cons (v_ 1) (pa_cons (v_ 2) pa_nil)))) (pss_cons (ps_set (i := 4) sc_law.nd rfl (.inl rfl) (pe_call c__law_change.G (hr.mono (by first | decide | omega)) rfl c__law_change.m c__law_change.kp c__law_change.b .nil pass0 (pa_cons (v_ 3) pa_nil))) (pss_cons (ps_set (i := 5) sc_law.nd rfl (.inl rfl) (pe_call c__law_rows_text.G (hr.mono (by first | decide | omega)) rfl c__law_rows_text.m c__law_rows_text.kp c__law_rows_text.b .nil pass0 (pa_cons (v_ 3) pa_nil))) (pss_cons (ps_if (PW.pt (pw_or (pt_not (pt_t K (pe_call c__law_same.G (hr.mono (by first | decide | omega)) rfl c__law_same.m c__law_same.kp c__law_same.b .nil pass0 (pa_cons (pe_meth0 (v_ 4) c_Change_text.cl c_Change_text.me c_Change_text.G (hr.mono (by first | decide | omega)) c_Change_text.b .nil pass0) (pa_cons (v_ 5) pa_nil))))) (pw_or1 (pt_not (pt_t K (pe_call c__law_same.G (hr.mono (by first | decide | omega)) rfl c__law_same.m c__law_same.kp c__law_same.b .nil pass0 (pa_cons (pe_meth0 (v_ 4) c_Change_text.cl c_Change_text.me c_Change_text.G (hr.mono (by first | decide | omega)) c_Change_text.b .nil pass0) (pa_cons (v_ 5) pa_nil)))))))) (pss_one (ps_ret pe_bl)) pss_nil) (pss_cons (ps_if (PW.pt (pw_or (pt_not (pt_t K (pe_call c__law_same.G (hr.mono (by first | decide | omega)) rfl c__law_same.m c__law_same.kp c__law_same.b .nil pass0 (pa_cons (pe_call c__law_read_it.G (hr.mono (by first | decide | omega)) rfl c__law_read_it.m c__law_read_it.kp c__law_read_it.b .nil pass0 (pa_cons (v_ 5) pa_nil)) (pa_cons (pe_tup (pa_cons pe_str (pa_cons (pe_callTy (tupleK K) (by rfl) T.z_tuple (by decide +kernel) (pa_cons (v_ 3) pa_nil)) pa_nil))) pa_nil))))) (pw_or1 (pt_not (pt_t K (pe_call c__law_lets.G (hr.mono (by first | decide | omega)) rfl c__law_lets.m c__law_lets.kp c__law_lets.b .nil pass0 (pa_cons (v_ 1) (pa_cons (v_ 3) pa_nil)))))))) (pss_one (ps_ret pe_bl)) pss_nil) (pss_cons (ps_set (i := 6) sc_law.nd rfl (.inl rfl) (pe_lst pa_nil)) (pss_cons (ps_for PassesOwn.never rfl (pi_range1 rfl T.z_range (pa_cons (pe_op op_subM pe_int (pe_call c__law_draw.G (hr.mono (by first | decide | omega)) rfl c__law_draw.m c__law_draw.kp c__law_draw.b .nil pass0 (pa_cons (v_ 1) (pa_cons pe_int pa_nil)))) pa_nil)) (pg_name (i := 7) sc_law.nd rfl (.inl rfl)) (pss_one (ps_expr (pe_bm PySem.F.plainAttrs_list PySem.F.slot_list_append PySem.F.type_list_append mt_append (v_ 6) (pa_cons (pe_tup (pa_cons (pe_call c__law_pick.G (hr.mono (by first | decide | omega)) rfl c__law_pick.m c__law_pick.kp c__law_pick.b .nil pass0 (pa_cons (v_ 1) (pa_cons (v_ 2) pa_nil))) (pa_cons (pe_call c__law_pick.G (hr.mono (by first | decide | omega)) rfl c__law_pick.m c__law_pick.kp c__law_pick.b .nil pass0 (pa_cons (v_ 1) (pa_cons (pe_lst (pa_cons pe_str (pa_cons pe_str pa_nil))) pa_nil))) (pa_cons (pe_call c__law_constant.G (hr.mono (by first | decide | omega)) rfl c__law_constant.m c__law_constant.kp c__law_constant.b .nil pass0 (pa_cons (v_ 1) pa_nil)) pa_nil)))) pa_nil))))) (pss_cons (ps_setLc (i := 8) (own := [("_law_k", 7)]) (g := gName 7) (by rfl) sc_law.nd rfl rfl (sw_true rfl rfl rfl (by decide +kernel)) (pi_range1 rfl T.z_range (pa_cons pe_int pa_nil)) (blkOk_by (N := ["_law_script", "_law_state_here", "_law_names_here", "_law_rows", "_law_made", "_law_text", "_law_some", "_law_k", "_law_four", "_law_words_here"]) (sc := defScope s_law) (by decide +kernel)) (fun _ _ _ _ _ => pg_name (i := 7) sc_law.nd rfl (Or.inl rfl)) (fun _ _ _ _ _ => pts_nil) (fun _ _ _ _ _ => (pe_tup (pa_cons (e_x K (v_ 2) (v_ 7)) (pa_cons pe_str (pa_cons (pe_op op_subM (v_ 7) pe_int) pa_nil)))))) (pss_cons (ps_if (PW.pt (pw_or (pt_not (pt_t K (pe_call c__law_lets.G (hr.mono (by first | decide | omega)) rfl c__law_lets.m c__law_lets.kp c__law_lets.b .nil pass0 (pa_cons (v_ 1) (pa_cons (v_ 6) pa_nil))))) (pw_or (pt_not (pt_t K (pe_call c__law_lets.G (hr.mono (by first | decide | omega)) rfl c__law_lets.m c__law_lets.kp c__law_lets.b .nil pass0 (pa_cons (v_ 1) (pa_cons (v_ 8) pa_nil))))) (pw_or1 (pt_not (pt_t K (pe_call c__law_lets.G (hr.mono (by first | decide | omega)) rfl c__law_lets.m c__law_lets.kp c__law_lets.b .nil pass0 (pa_cons (v_ 1) (pa_cons (pe_lst pa_nil) pa_nil))))))))) (pss_one (ps_ret pe_bl)) pss_nil) (pss_cons (ps_set (i := 9) sc_law.nd rfl (.inl rfl) (pe_op (addK K) (pe_call c__law_words.G (hr.mono (by first | decide | omega)) rfl c__law_words.m c__law_words.kp c__law_words.b .nil pass0 (pa_cons (v_ 8) pa_nil)) (pe_lst (pa_cons pe_str pa_nil)))) (pss_cons (ps_if (pt_not (pt_t K (pe_call c__law_asks.G (hr.mono (by first | decide | omega)) rfl c__law_asks.m c__law_asks.kp c__law_asks.b .nil pass0 (pa_cons (v_ 1) (pa_cons (v_ 9) (pa_cons (pe_callB (lenK K) (by rfl) T.z_len PySem.boot_len (pa_cons (v_ 9) pa_nil)) pa_nil)))))) (pss_one (ps_ret pe_bl)) pss_nil) (pss_one (ps_ret (pe_call c__law_spoils.G (hr.mono (by first | decide | omega)) rfl c__law_spoils.m c__law_spoils.kp c__law_spoils.b .nil pass0 (pa_cons (v_ 1) (pa_cons (pe_call c__law_words.G (hr.mono (by first | decide | omega)) rfl c__law_words.m c__law_words.kp c__law_words.b .nil pass0 (pa_cons (v_ 6) pa_nil)) (pa_cons (pe_call c__law_draw.G (hr.mono (by first | decide | omega)) rfl c__law_draw.m c__law_draw.kp c__law_draw.b .nil pass0 (pa_cons (v_ 1) (pa_cons (pe_callB (lenK K) (by rfl) T.z_len PySem.boot_len (pa_cons (v_ 6) pa_nil)) pa_nil))) pa_nil))))))))))))))))))), ?_⟩
  refine ⟨a, ns, rfl, hS, hl, fun H1 st scr sm fs fc hd => ?_⟩
  refine ⟨st, scr, 5, rfl, hd, by decide, fun H2 pn zs b2 hd2 npn hpn hzl hzn hnd => ?_⟩
  have pns : pn ≠ st := hd.ne_new npn
  clear b2 hd sm
  refine ⟨st, scr, pn, zs, rfl, hd2, hpn, pns, by omega, hzn, hnd, fun H3 L rs xs b3 hd3 nL hL hrs gx _ => ?_⟩
  have Ls : L ≠ st := hd2.ne_new nL
  have hpn3 := b3 _ _ pns hpn
  have hok := good_ok gx
  have hl3 := gx.2.2
  refine ⟨L, rs, xs, rfl, hL, hrs, gx, fun H4 m s4 hm => ?_⟩
  obtain ⟨C, dx, tm, um, hC, hma, _⟩ := id hm
  cases hC.symm.trans T.n_Change
  have hd4 := hd3.new s4
  have hpn4 := s4 _ _ hpn3
  have hL4 := s4 _ _ hL
  have hrs4 := hrs.same s4
  refine ⟨L, rs, xs, rfl, hL4, hrs4, by omega, hok, fun H5 s5 => ?_⟩
  refine ⟨m, dx, _, rfl, s5 _ _ hma, rfl, m, xs, rfl, hm.same s5, by omega, hok, fun H6 s6 => ?_⟩
  refine ⟨_, _, rfl, .inr (.inl ⟨_, rfl, rfl⟩), ?_⟩
  have s46 := s5.trans s6
  refine ⟨m, dx, _, rfl, s46 _ _ hma, rfl, m, xs, rfl, hm.same s46, by omega, hok, fun H7 s7 => ?_⟩
  refine ⟨_, _, rfl, .inr (.inl ⟨_, rfl, rfl⟩), ?_⟩
  have s47 := s46.trans s7
  have lay := jt_laid hok (by omega)
  have hok1 : ∀ x ∈ xs, RowOk x := fun x hx => (hok x hx).1
  refine ⟨_, rfl, pre_tok lay (fun z hz => (wds_pc hok hz).2.1) (by rw [wds_len]; omega) (fun z hz => wds_tok hok1 hz), fun H8 t8 s8 o8 => ?_⟩
  rw [out_wds hok1 lay, foldJ_good gx] at o8
  have s48 := s47.trans s8
  refine ⟨L, _, rfl, .inl ⟨SqL.of (s48 _ _ hL4), fun v nv => ?_⟩⟩
  have sv := same_new (o := .tup (rs.map V.ref)) nv
  refine ⟨(by show 2 ≤ sizeLine; decide), fun t9 n9 => ?_⟩
  have s9 := same_new (o := .tup [.str "let", .ref v]) n9
  have s89 := sv.trans s9
  have s49 := s48.trans s89
  refine ⟨_, _, rfl, outv_same (o8.same s89) ⟨v, rs, upd_same, s9 _ _ upd_same, hrs4.same s49, by omega⟩, ?_⟩
  generalize upd (upd H8 v (.tup (rs.map V.ref))) t9 (.tup [.str "let", .ref v]) = H9 at s49 ⊢
  refine ⟨st, scr, L, rs, xs, rfl, hd4.new s49, s49 _ _ hL4, hrs4.same s49, Ls, by omega, hok, fun HA bA hdA => ?_⟩
  have hpnA := bA _ _ pns (s49 _ _ hpn4)
  refine ⟨Nat.zero_le _, fun S nS => ?_⟩
  have Ss : S ≠ st := hdA.ne_new nS
  have Sc : S ≠ scr := hdA.ne_scr nS
  have pS : pn ≠ S := ne_of_none hpnA nS
  have sS := same_new (o := .lst []) nS
  refine ⟨st, scr, _, rfl, hdA.new sS, by decide, many_small (by decide) (by decide), fun k l k0 k1 hdB => ?_⟩
  have hSB : upd (upd HA S (.lst [])) st (.lst l) S = some (.lst []) := by rw [upd_ne Ss, upd_same]
  have hpnB : upd (upd HA S (.lst [])) st (.lst l) pn = some (.lst (zs.map V.str)) := by rw [upd_ne pns]; exact sS _ _ hpnA
  generalize upd (upd HA S (.lst [])) st (.lst l) = HB at hdB hSB hpnB ⊢
  refine ⟨5 - k, rfl, by omega, by omega, ?_⟩
  refine for_range (lo := 0) (n := (5 - k).toNat) (fun i σ' H' => ∃ (y : Option V) (us : List Addr) (ys : List Rw), σ' = [some (.ref a), some (.ref st), some (.ref pn), some (.ref L), some (.ref m), some (.str (jtxt xs)), some (.ref S), y, none, none] ∧ DrAt H' st scr ∧ H' pn = some (.lst (zs.map V.str)) ∧ H' S = some (.lst (us.map V.ref)) ∧ RowsL H' us ys ∧ ys.length = i ∧ ∀ x ∈ ys, RowOk x ∧ x.f.length ≤ 12) ⟨_, [], [], rfl, hdB, hpnB, hSB, trivial, rfl, fun _ h => nomatch h⟩ ?_ ?_
  · rintro i σ' H' hi ⟨y, us, ys, rfl, hdd, hpn', hS', hus, hyl, hyo⟩
    refine ⟨.inl ⟨rfl, _, SqL.of hS'⟩, ?_⟩
    refine ⟨st, scr, _, rfl, hdd, .inr ⟨pn, _, rfl, hpn', pns, by rw [List.length_map]; omega, by rw [List.length_map]; omega, fun x l0 hx hd5 => ?_⟩⟩
    obtain ⟨z, hz, rfl⟩ := List.mem_map.mp hx
    refine ⟨(by show 2 ≤ sizeLine; decide), fun t1 n1 => ?_⟩
    have hd6 := hd5.new (same_new (o := .lst [.str "add", .str "set"]) n1)
    refine ⟨st, scr, _, rfl, hd6, .inr ⟨t1, _, rfl, upd_same, hd5.ne_new n1, by decide, by decide, fun dv l1 hdv hd7 => ?_⟩⟩
    obtain ⟨ad, rfl⟩ : ∃ ad : Bool, dv = .str (deed ad) := by
      simp only [List.mem_cons, List.not_mem_nil, or_false] at hdv
      rcases hdv with rfl | rfl
      · exact ⟨true, rfl⟩
      · exact ⟨false, rfl⟩
    refine ⟨st, scr, rfl, hd7, fun l2 n hn hd8 => ?_⟩
    refine ⟨(by show 3 ≤ sizeLine; decide), fun t2 n2 => ?_⟩
    have keep : ∀ b o, b ≠ st → H' b = some o → (upd (upd (upd (upd (upd H' st (.lst l0)) t1 (.lst [.str "add", .str "set"])) st (.lst l1)) st (.lst l2)) t2 (.tup [.str z, .str (deed ad), .int n])) b = some o := fun b o nb hb =>
      same_new n2 _ _ (by rw [upd_ne nb, upd_ne nb]; exact same_new n1 _ _ (by rw [upd_ne nb]; exact hb))
    have ht2 := upd_same (H := upd (upd (upd (upd H' st (.lst l0)) t1 (.lst [.str "add", .str "set"])) st (.lst l1)) st (.lst l2)) (a := t2) (o := .tup [.str z, .str (deed ad), .int n])
    have hd9 := hd8.new (same_new (o := .tup [.str z, .str (deed ad), .int n]) n2)
    generalize upd (upd (upd (upd (upd H' st (.lst l0)) t1 (.lst [.str "add", .str "set"])) st (.lst l1)) st (.lst l2)) t2 (.tup [.str z, .str (deed ad), .int n]) = H5 at keep ht2 hd9 ⊢
    have hS5 := keep _ _ Ss hS'
    have hul : us.length ≤ 5 := by rw [hus.len]; omega
    refine ⟨S, _, _, rfl, rfl, hS5, line_lt (by rw [List.length_map]; omega), ?_⟩
    have kt : ∀ c z, H' c = some (.tup z) → (upd H5 S (.lst (us.map V.ref ++ [.ref t2]))) c = some (.tup z) := fun c z hc => by
      obtain ⟨l, hl⟩ := hdd.lst
      rw [upd_ne (ne_of hc hS' (by intro e; cases e))]
      exact keep _ _ (ne_of hc hl (by intro e; cases e)) hc
    have t2S : t2 ≠ S := by
      intro e
      rw [e, hS5] at ht2
      cases ht2
    refine ⟨_, us ++ [t2], ys ++ [⟨z, ad, n⟩], rfl, hd9.at Ss Sc, by rw [upd_ne pS]; exact keep _ _ pns hpn', by rw [upd_same, List.map_append]; rfl, (hus.keep kt).app ⟨by show _ = _; rw [upd_ne t2S]; exact ht2, trivial⟩, by rw [List.length_append, hyl]; rfl, fun x hx => ?_⟩
    rcases List.mem_append.mp hx with h | h
    · exact hyo x h
    · rw [List.mem_singleton.mp h]
      exact ⟨⟨(hzn z hz).1, by have := (hzn z hz).2; show z.length ≤ 1000; omega, inB_of hn.1 hn.2⟩, (hzn z hz).2⟩
  · rintro σ' H' ⟨y, us, ys, rfl, hdd, hpn', hS', hus, hyl, hyo⟩
    refine ⟨4, rfl, by decide, by decide, fun D nD => ?_⟩
    have Ds : D ≠ st := hdd.ne_new nD
    have Dc : D ≠ scr := hdd.ne_scr nD
    have sD := same_new (o := .lst []) nD
    refine lc_it walk_range (fun i H2 => Same H' H2 ∧ DrAt H2 st scr ∧ ∃ (ts : List Addr) (ws : List Rw), H2 D = some (.lst (ts.map V.ref)) ∧ RowsL H2 ts ws ∧ ws.length = i ∧ ∀ x ∈ ws, RowOk x ∧ x.f.length ≤ 12) ⟨sD, hdd.new sD, [], [], upd_same, trivial, rfl, fun _ h => nomatch h⟩ (fun _ _ _ _ => trivial) ?_ ?_
    · rintro i v H2' H2 hi ⟨s2, hd2, ts, ws, hD, hts, hwl, hwo⟩ ⟨rfl, rfl⟩
      have hi : i < 4 := hi
      refine ⟨rfl, ?_⟩
      have hz : zs[i]? = some zs[i] := List.getElem?_eq_getElem (by omega)
      generalize zs[i] = z at hz
      have hzm := hzn z (List.mem_of_getElem? hz)
      refine ⟨_, .inl (SqL.of (s2 _ _ hpn')), .str z, by rw [Int.zero_add]; exact atI_nat (by rw [List.getElem?_map, hz]; rfl), ?_⟩
      refine ⟨(by show 3 ≤ sizeLine; decide), fun t nt => ?_⟩
      have st' := same_new (o := .tup [.str z, .str "add", .int (0 + (i : Int) - 1)]) nt
      have ht := upd_same (H := H2) (a := t) (o := .tup [.str z, .str "add", .int (0 + (i : Int) - 1)])
      have hd3 := hd2.new st'
      have hD3 := st' _ _ hD
      have hts3 := hts.same st'
      have s3 := s2.trans st'
      generalize upd H2 t (.tup [.str z, .str "add", .int (0 + (i : Int) - 1)]) = H3 at ht hd3 hD3 hts3 s3 ⊢
      have tl : ts.length ≤ 4 := by rw [hts.len]; omega
      have tD : t ≠ D := by
        intro e
        rw [e, hD3] at ht
        cases ht
      have kt : ∀ c z, H3 c = some (.tup z) → (upd H3 D (.lst (ts.map V.ref ++ [.ref t]))) c = some (.tup z) := fun c z hc => by
        rw [upd_ne (ne_of hc hD3 (by intro e; cases e))]
        exact hc
      refine ⟨_, hD3, line_lt (by rw [List.length_map]; omega), same_upd0 s3 nD, hd3.at Ds Dc, ts ++ [t], ws ++ [⟨z, true, 0 + (i : Int) - 1⟩], by rw [upd_same, List.map_append]; rfl, (hts3.keep kt).app ⟨by show _ = _; rw [upd_ne tD]; exact ht, trivial⟩, by rw [List.length_append, hwl]; rfl, fun x hx => ?_⟩
      rcases List.mem_append.mp hx with h | h
      · exact hwo x h
      · rw [List.mem_singleton.mp h]
        exact ⟨⟨hzm.1, by show z.length ≤ 1000; omega, inB_of (by show _ ≤ 0 + (i : Int) - 1; omega) (by show 0 + (i : Int) - 1 ≤ _; omega)⟩, hzm.2⟩
    · rintro H2 ⟨s2, hd2, ts, ws, hD, hts, hwl, hwo⟩
      have hwl : ws.length = 4 := hwl
      have hS2 := s2 _ _ hS'
      have hus2 := hus.same s2
      refine ⟨st, scr, S, us, ys, rfl, hd2, hS2, hus2, Ss, by omega, hyo, fun H3 b3 hd3 => ?_⟩
      have hS3 := b3 _ _ Ss hS2
      have hus3 : RowsL H3 us ys := hus2.at_st hd2 b3
      have hD3 := b3 _ _ Ds hD
      have hts3 : RowsL H3 ts ws := hts.at_st hd2 b3
      refine ⟨st, scr, D, ts, ws, rfl, hd3, hD3, hts3, Ds, by omega, hwo, fun H4 b4 hd4 => ?_⟩
      have hS4 := b4 _ _ Ss hS3
      have hus4 : RowsL H4 us ys := hus3.at_st hd3 b4
      have hD4 := b4 _ _ Ds hD3
      have hts4 : RowsL H4 ts ws := hts3.at_st hd3 b4
      refine ⟨Nat.zero_le _, fun E0 nE => ?_⟩
      have sE := same_new (o := .lst []) nE
      refine ⟨st, scr, E0, [], [], rfl, hd4.new sE, upd_same, trivial, hd4.ne_new nE, by decide, (fun _ h => nomatch h), fun H5 b5 hd5 => ?_⟩
      have b45 := (Bt.same (st := st) sE).trans b5
      have hS5 := b45 _ _ Ss hS4
      have hus5 : RowsL H5 us ys := hus4.at_st hd4 b45
      have hD5 := b45 _ _ Ds hD4
      have hts5 : RowsL H5 ts ws := hts4.at_st hd4 b45
      refine ⟨D, ts, ws, rfl, hD5, hts5, by omega, hwo, fun H6 W s6 nW hW => ?_⟩
      refine ⟨(by show 1 ≤ sizeLine; decide), fun U nU => ?_⟩
      have sU := same_new (o := .lst [V.str ","]) nU
      have hwd := wds_len (xs := ws)
      refine .inl ⟨_, _, sU _ _ hW, upd_same, line_of (by rw [List.length_map]; show _ + 1 ≤ _; omega), fun X nX => ?_⟩
      have sX := sU.trans (same_new (o := .lst ((wds ws).map V.str ++ [V.str ","])) nX)
      have hX := upd_same (H := upd H6 U (.lst [V.str ","])) (a := X) (o := .lst ((wds ws).map V.str ++ [V.str ","]))
      have ew : (wds ws).map V.str ++ [V.str ","] = (wds ws ++ [(",":Str)]).map V.str := by rw [List.map_append]; rfl
      have Xs : X ≠ st := (hd5.new s6).ne_new (Same.free sU nX)
      have hd7 := hd5.new (s6.trans sX)
      have hS7 := (s6.trans sX) _ _ hS5
      have hus7 := hus5.same (s6.trans sX)
      rw [ew] at hX hd7 hS7 hus7 ⊢
      generalize upd (upd H6 U (.lst [V.str ","])) X (.lst ((wds ws ++ [(",":Str)]).map V.str)) = H7 at hX hd7 hS7 hus7 ⊢
      have hl16 : (wds ws ++ [(",":Str)]).length = 16 := by rw [List.length_append, hwd, hwl]; rfl
      have hwo1 : ∀ x ∈ ws, RowOk x := fun x hx => (hwo x hx).1
      refine .inl ⟨_, .inl (SqL.of hX), st, scr, X, wds ws ++ [(",":Str)], 16, by rw [List.length_map, hl16]; rfl, hd7, hX, Xs, by omega, fun z hz => ?_, by rw [hl16]; exact asks_comma hwo1 hwl, fun H8 b8 hd8 => ?_⟩
      · rcases List.mem_append.mp hz with h | h
        · exact wds_pc hwo h
        · rw [List.mem_singleton.mp h]
          exact pc_tok comma_tok (by decide +kernel) (by decide +kernel)
      have hS8 := b8 _ _ Ss hS7
      have hus8 : RowsL H8 us ys := hus7.at_st hd7 b8
      refine ⟨S, us, ys, rfl, hS8, hus8, by omega, hyo, fun H9 Y s9 nY hY => ?_⟩
      have Ys : Y ≠ st := hd8.ne_new nY
      have hd9 := hd8.new s9
      refine .inl ⟨_, .inl (SqL.of (s9 _ _ hS8)), st, scr, _, rfl, hd9, by rw [List.length_map, hus8.len]; omega, many_small (by rw [List.length_map, hus8.len]; omega) (by rw [List.length_map, hus8.len]; omega), fun j l j0 j1 hdA => ?_⟩
      rw [List.length_map, hus8.len] at j1
      obtain ⟨j, rfl⟩ := Int.eq_ofNat_of_zero_le j0
      exact ⟨st, scr, Y, ys, j, rfl, hdA, by rw [upd_ne Ys]; exact hY, Ys, hyo, by omega, by omega, fun HZ _ _ => q HZ⟩
end
theorem all_mk {l : PySem.W.OpenLaw} {w : World} {K : PySem.W.Frag} {h : Heap} {mg : Str → Option Value} {fa : Addr} {t_BOUND t_DIGITS t_LETTERS t_LONGEST_INTEGER t_LONGEST_NAME : Tok} {a_MARKS a_RESERVED a_SIGNS a_BadName a_BadNumber a_BadText a_Change a_ElseputError a_Reader a_TooLarge : Addr} {u_Change_MOST : Tok} {f_is_name f_run_end f_token_end f_split_line f_in_bound f_check_name f_check_number f_is_integer f_followed f_Reader_at_end f_Reader_ahead f_Reader__refuse f_Reader__take_if f_Reader_take_one f_Reader_take_name f_Reader_take_integer f_parse_assignment f_Reader_skip f_parse_assignments f_Change___init__ f_Change_none f_Change_adding f_Change_setting f_Change_assigned f_Change___rshift__ f_build_change f__law_state f__law_draw f__law_pick f__law_mixed f__law_number f__law_constant f__law_names f__law_is_int f__law_same f__law_change f__law_rows_text f__law_some_rows f__law_chained f__law_touch f__law_laid f_Reader___init__ f_Reader_take_end f_Change_read f__law_read_it f__law_words f__law_folded f__law_lets f__law_asks f__law_unfit f__law_spoils f_Change_text f_law : Addr} {od_is_name an_is_name : Option Addr} {sl_is_name : Array (Option Value)} {oc_is_name kV_is_name dc_is_name pm_is_name cd_is_name ct_is_name : Value} {od_run_end an_run_end : Option Addr} {sl_run_end : Array (Option Value)} {oc_run_end kV_run_end dc_run_end pm_run_end cd_run_end ct_run_end : Value} {od_token_end an_token_end : Option Addr} {sl_token_end : Array (Option Value)} {oc_token_end kV_token_end dc_token_end pm_token_end cd_token_end ct_token_end : Value} {od_split_line an_split_line : Option Addr} {sl_split_line : Array (Option Value)} {oc_split_line kV_split_line dc_split_line pm_split_line cd_split_line ct_split_line : Value} {od_in_bound an_in_bound : Option Addr} {sl_in_bound : Array (Option Value)} {oc_in_bound kV_in_bound dc_in_bound pm_in_bound cd_in_bound ct_in_bound : Value} {od_check_name an_check_name : Option Addr} {sl_check_name : Array (Option Value)} {oc_check_name kV_check_name dc_check_name pm_check_name cd_check_name ct_check_name : Value} {od_check_number an_check_number : Option Addr} {sl_check_number : Array (Option Value)} {oc_check_number kV_check_number dc_check_number pm_check_number cd_check_number ct_check_number : Value} {od_is_integer an_is_integer : Option Addr} {sl_is_integer : Array (Option Value)} {oc_is_integer kV_is_integer dc_is_integer pm_is_integer cd_is_integer ct_is_integer : Value} {od_followed an_followed : Option Addr} {sl_followed : Array (Option Value)} {oc_followed kV_followed dc_followed pm_followed cd_followed ct_followed : Value} {od_Reader_at_end an_Reader_at_end : Option Addr} {sl_Reader_at_end : Array (Option Value)} {oc_Reader_at_end kV_Reader_at_end dc_Reader_at_end pm_Reader_at_end cd_Reader_at_end ct_Reader_at_end : Value} {od_Reader_ahead an_Reader_ahead : Option Addr} {sl_Reader_ahead : Array (Option Value)} {oc_Reader_ahead kV_Reader_ahead dc_Reader_ahead pm_Reader_ahead cd_Reader_ahead ct_Reader_ahead : Value} {od_Reader__refuse an_Reader__refuse : Option Addr} {sl_Reader__refuse : Array (Option Value)} {oc_Reader__refuse kV_Reader__refuse dc_Reader__refuse pm_Reader__refuse cd_Reader__refuse ct_Reader__refuse : Value} {od_Reader__take_if an_Reader__take_if : Option Addr} {sl_Reader__take_if : Array (Option Value)} {oc_Reader__take_if kV_Reader__take_if dc_Reader__take_if pm_Reader__take_if cd_Reader__take_if ct_Reader__take_if : Value} {od_Reader_take_one an_Reader_take_one : Option Addr} {sl_Reader_take_one : Array (Option Value)} {oc_Reader_take_one kV_Reader_take_one dc_Reader_take_one pm_Reader_take_one cd_Reader_take_one ct_Reader_take_one : Value} {od_Reader_take_name an_Reader_take_name : Option Addr} {sl_Reader_take_name : Array (Option Value)} {oc_Reader_take_name kV_Reader_take_name dc_Reader_take_name pm_Reader_take_name cd_Reader_take_name ct_Reader_take_name : Value} {od_Reader_take_integer an_Reader_take_integer : Option Addr} {sl_Reader_take_integer : Array (Option Value)} {oc_Reader_take_integer kV_Reader_take_integer dc_Reader_take_integer pm_Reader_take_integer cd_Reader_take_integer ct_Reader_take_integer : Value} {od_parse_assignment an_parse_assignment : Option Addr} {sl_parse_assignment : Array (Option Value)} {oc_parse_assignment kV_parse_assignment dc_parse_assignment pm_parse_assignment cd_parse_assignment ct_parse_assignment : Value} {od_Reader_skip an_Reader_skip : Option Addr} {sl_Reader_skip : Array (Option Value)} {oc_Reader_skip kV_Reader_skip dc_Reader_skip pm_Reader_skip cd_Reader_skip ct_Reader_skip : Value} {od_parse_assignments an_parse_assignments : Option Addr} {sl_parse_assignments : Array (Option Value)} {oc_parse_assignments kV_parse_assignments dc_parse_assignments pm_parse_assignments cd_parse_assignments ct_parse_assignments : Value} {od_Change___init__ an_Change___init__ : Option Addr} {sl_Change___init__ : Array (Option Value)} {oc_Change___init__ kV_Change___init__ dc_Change___init__ pm_Change___init__ cd_Change___init__ ct_Change___init__ : Value} {p_Change_none : Addr} {r_Change_none : List Value} {od_Change_none an_Change_none : Option Addr} {sl_Change_none : Array (Option Value)} {oc_Change_none kV_Change_none dc_Change_none pm_Change_none cd_Change_none ct_Change_none : Value} {p_Change_adding : Addr} {r_Change_adding : List Value} {od_Change_adding an_Change_adding : Option Addr} {sl_Change_adding : Array (Option Value)} {oc_Change_adding kV_Change_adding dc_Change_adding pm_Change_adding cd_Change_adding ct_Change_adding : Value} {p_Change_setting : Addr} {r_Change_setting : List Value} {od_Change_setting an_Change_setting : Option Addr} {sl_Change_setting : Array (Option Value)} {oc_Change_setting kV_Change_setting dc_Change_setting pm_Change_setting cd_Change_setting ct_Change_setting : Value} {p_Change_assigned : Addr} {r_Change_assigned : List Value} {od_Change_assigned an_Change_assigned : Option Addr} {sl_Change_assigned : Array (Option Value)} {oc_Change_assigned kV_Change_assigned dc_Change_assigned pm_Change_assigned cd_Change_assigned ct_Change_assigned : Value} {od_Change___rshift__ an_Change___rshift__ : Option Addr} {sl_Change___rshift__ : Array (Option Value)} {oc_Change___rshift__ kV_Change___rshift__ dc_Change___rshift__ pm_Change___rshift__ cd_Change___rshift__ ct_Change___rshift__ : Value} {od_build_change an_build_change : Option Addr} {sl_build_change : Array (Option Value)} {oc_build_change kV_build_change dc_build_change pm_build_change cd_build_change ct_build_change : Value} {od__law_state an__law_state : Option Addr} {sl__law_state : Array (Option Value)} {oc__law_state kV__law_state dc__law_state pm__law_state cd__law_state ct__law_state : Value} {od__law_draw an__law_draw : Option Addr} {sl__law_draw : Array (Option Value)} {oc__law_draw kV__law_draw dc__law_draw pm__law_draw cd__law_draw ct__law_draw : Value} {od__law_pick an__law_pick : Option Addr} {sl__law_pick : Array (Option Value)} {oc__law_pick kV__law_pick dc__law_pick pm__law_pick cd__law_pick ct__law_pick : Value} {od__law_mixed an__law_mixed : Option Addr} {sl__law_mixed : Array (Option Value)} {oc__law_mixed kV__law_mixed dc__law_mixed pm__law_mixed cd__law_mixed ct__law_mixed : Value} {od__law_number an__law_number : Option Addr} {sl__law_number : Array (Option Value)} {oc__law_number kV__law_number dc__law_number pm__law_number cd__law_number ct__law_number : Value} {od__law_constant an__law_constant : Option Addr} {sl__law_constant : Array (Option Value)} {oc__law_constant kV__law_constant dc__law_constant pm__law_constant cd__law_constant ct__law_constant : Value} {od__law_names an__law_names : Option Addr} {sl__law_names : Array (Option Value)} {oc__law_names kV__law_names dc__law_names pm__law_names cd__law_names ct__law_names : Value} {od__law_is_int an__law_is_int : Option Addr} {sl__law_is_int : Array (Option Value)} {oc__law_is_int kV__law_is_int dc__law_is_int pm__law_is_int cd__law_is_int ct__law_is_int : Value} {od__law_same an__law_same : Option Addr} {sl__law_same : Array (Option Value)} {oc__law_same kV__law_same dc__law_same pm__law_same cd__law_same ct__law_same : Value} {od__law_change an__law_change : Option Addr} {sl__law_change : Array (Option Value)} {oc__law_change kV__law_change dc__law_change pm__law_change cd__law_change ct__law_change : Value} {od__law_rows_text an__law_rows_text : Option Addr} {sl__law_rows_text : Array (Option Value)} {oc__law_rows_text kV__law_rows_text dc__law_rows_text pm__law_rows_text cd__law_rows_text ct__law_rows_text : Value} {od__law_some_rows an__law_some_rows : Option Addr} {sl__law_some_rows : Array (Option Value)} {oc__law_some_rows kV__law_some_rows dc__law_some_rows pm__law_some_rows cd__law_some_rows ct__law_some_rows : Value} {od__law_chained an__law_chained : Option Addr} {sl__law_chained : Array (Option Value)} {oc__law_chained kV__law_chained dc__law_chained pm__law_chained cd__law_chained ct__law_chained : Value} {od__law_touch an__law_touch : Option Addr} {sl__law_touch : Array (Option Value)} {oc__law_touch kV__law_touch dc__law_touch pm__law_touch cd__law_touch ct__law_touch : Value} {od__law_laid an__law_laid : Option Addr} {sl__law_laid : Array (Option Value)} {oc__law_laid kV__law_laid dc__law_laid pm__law_laid cd__law_laid ct__law_laid : Value} {od_Reader___init__ an_Reader___init__ : Option Addr} {sl_Reader___init__ : Array (Option Value)} {oc_Reader___init__ kV_Reader___init__ dc_Reader___init__ pm_Reader___init__ cd_Reader___init__ ct_Reader___init__ : Value} {dT_Reader___init__ : Addr} {dd_Reader___init__ : Option Addr} {ds_Reader___init__ : Array Value} {dn_Reader___init__ : Nat} {dl_Reader___init__ : Array (Option Value)} {od_Reader_take_end an_Reader_take_end : Option Addr} {sl_Reader_take_end : Array (Option Value)} {oc_Reader_take_end kV_Reader_take_end dc_Reader_take_end pm_Reader_take_end cd_Reader_take_end ct_Reader_take_end : Value} {p_Change_read : Addr} {r_Change_read : List Value} {od_Change_read an_Change_read : Option Addr} {sl_Change_read : Array (Option Value)} {oc_Change_read kV_Change_read dc_Change_read pm_Change_read cd_Change_read ct_Change_read : Value} {od__law_read_it an__law_read_it : Option Addr} {sl__law_read_it : Array (Option Value)} {oc__law_read_it kV__law_read_it dc__law_read_it pm__law_read_it cd__law_read_it ct__law_read_it : Value} {od__law_words an__law_words : Option Addr} {sl__law_words : Array (Option Value)} {oc__law_words kV__law_words dc__law_words pm__law_words cd__law_words ct__law_words : Value} {od__law_folded an__law_folded : Option Addr} {sl__law_folded : Array (Option Value)} {oc__law_folded kV__law_folded dc__law_folded pm__law_folded cd__law_folded ct__law_folded : Value} {od__law_lets an__law_lets : Option Addr} {sl__law_lets : Array (Option Value)} {oc__law_lets kV__law_lets dc__law_lets pm__law_lets cd__law_lets ct__law_lets : Value} {od__law_asks an__law_asks : Option Addr} {sl__law_asks : Array (Option Value)} {oc__law_asks kV__law_asks dc__law_asks pm__law_asks cd__law_asks ct__law_asks : Value} {od__law_unfit an__law_unfit : Option Addr} {sl__law_unfit : Array (Option Value)} {oc__law_unfit kV__law_unfit dc__law_unfit pm__law_unfit cd__law_unfit ct__law_unfit : Value} {od__law_spoils an__law_spoils : Option Addr} {sl__law_spoils : Array (Option Value)} {oc__law_spoils kV__law_spoils dc__law_spoils pm__law_spoils cd__law_spoils ct__law_spoils : Value} {od_Change_text an_Change_text : Option Addr} {sl_Change_text : Array (Option Value)} {oc_Change_text kV_Change_text dc_Change_text pm_Change_text cd_Change_text ct_Change_text : Value} {od_law an_law : Option Addr} {sl_law : Array (Option Value)} {oc_law kV_law dc_law pm_law cd_law ct_law : Value} {od_MARKS : Option Addr} {its_MARKS : Array Value} {n_MARKS : Nat} {sl_MARKS : Array (Option Value)} {od_RESERVED : Option Addr} {its_RESERVED : Array Value} {n_RESERVED : Nat} {sl_RESERVED : Array (Option Value)} {od_SIGNS : Option Addr} {its_SIGNS : Array Value} {n_SIGNS : Nat} {sl_SIGNS : Array (Option Value)} {f_BadName N_BadName cc_BadName cda_BadName : Addr} {nm_BadName q_BadName : Str} {bs_BadName bm_BadName : List Value} {sn_BadName : List Str} {sub_BadName : List Value} {ab_BadName : Bool} {col_BadName : Option Bool} {dd_BadName : Option Addr} {e0_BadName e1_BadName e2_BadName e3_BadName e5_BadName : Option Value} {oc_BadName doc_BadName pm_BadName ct_BadName ccl_BadName cl_BadName : Value} {od_BadName cdd_BadName cld_BadName : Option Addr} {osl_BadName ccs_BadName csl_BadName : Array (Option Value)} {vs_BadName : Array Value} {file_BadName : Str} {tf_BadName : Tok} {cdD_BadName : ClassData} {f_BadNumber N_BadNumber cc_BadNumber cda_BadNumber : Addr} {nm_BadNumber q_BadNumber : Str} {bs_BadNumber bm_BadNumber : List Value} {sn_BadNumber : List Str} {sub_BadNumber : List Value} {ab_BadNumber : Bool} {col_BadNumber : Option Bool} {dd_BadNumber : Option Addr} {e0_BadNumber e1_BadNumber e2_BadNumber e3_BadNumber e5_BadNumber : Option Value} {oc_BadNumber doc_BadNumber pm_BadNumber ct_BadNumber ccl_BadNumber cl_BadNumber : Value} {od_BadNumber cdd_BadNumber cld_BadNumber : Option Addr} {osl_BadNumber ccs_BadNumber csl_BadNumber : Array (Option Value)} {vs_BadNumber : Array Value} {file_BadNumber : Str} {tf_BadNumber : Tok} {cdD_BadNumber : ClassData} {f_BadText N_BadText cc_BadText cda_BadText : Addr} {nm_BadText q_BadText : Str} {bs_BadText bm_BadText : List Value} {sn_BadText : List Str} {sub_BadText : List Value} {ab_BadText : Bool} {col_BadText : Option Bool} {dd_BadText : Option Addr} {e0_BadText e1_BadText e2_BadText e3_BadText e5_BadText : Option Value} {oc_BadText doc_BadText pm_BadText ct_BadText ccl_BadText cl_BadText : Value} {od_BadText cdd_BadText cld_BadText : Option Addr} {osl_BadText ccs_BadText csl_BadText : Array (Option Value)} {vs_BadText : Array Value} {file_BadText : Str} {tf_BadText : Tok} {cdD_BadText : ClassData} {f_TooLarge N_TooLarge cc_TooLarge cda_TooLarge : Addr} {nm_TooLarge q_TooLarge : Str} {bs_TooLarge bm_TooLarge : List Value} {sn_TooLarge : List Str} {sub_TooLarge : List Value} {ab_TooLarge : Bool} {col_TooLarge : Option Bool} {dd_TooLarge : Option Addr} {e0_TooLarge e1_TooLarge e2_TooLarge e3_TooLarge e5_TooLarge : Option Value} {oc_TooLarge doc_TooLarge pm_TooLarge ct_TooLarge ccl_TooLarge cl_TooLarge : Value} {od_TooLarge cdd_TooLarge cld_TooLarge : Option Addr} {osl_TooLarge ccs_TooLarge csl_TooLarge : Array (Option Value)} {vs_TooLarge : Array Value} {file_TooLarge : Str} {tf_TooLarge : Tok} {cdD_TooLarge : ClassData} (X : K.In h) (G : h.Ns mainGlobals mg) (hfa : mg "law" = some (.ref fa))
    (g_Reader : PySem.W.nsIn K mainGlobals "Reader" = some (some (.ref a_Reader)))
    (pg_Reader : PySem.W.plainGet K a_Reader Str.empty = true)
    (hx_Reader : PySem.W.hasDictIn K a_Reader = true)
    (po_Reader : PySem.W.plainOver K a_Reader = true)
    (st_Reader : PySem.W.findIn K (.ref a_Reader) "__setattr__" = some (some (.builtin "object.__setattr__")))
    (rr_Reader : PySem.W.readsIn K a_Reader (.type "type") = true)
    (rg_Reader : PySem.W.specialIn K (.ref a_Reader) "__getattribute__" = some (some (.builtin "type.__getattribute__")))
    (mi_Reader : PySem.W.makesIn K a_Reader = true)
    (ko_Reader : PySem.W.keepIn K (.ref a_Reader) = true)
    (sf_Reader : PySem.W.selfFirst K a_Reader = true)
    (na_Reader__at : PySem.W.findIn K (.ref a_Reader) "_at" = some none)
    (na_Reader__end : PySem.W.findIn K (.ref a_Reader) "_end" = some none)
    (na_Reader__number : PySem.W.findIn K (.ref a_Reader) "_number" = some none)
    (na_Reader__parts : PySem.W.findIn K (.ref a_Reader) "_parts" = some none)
    (g_Change : PySem.W.nsIn K mainGlobals "Change" = some (some (.ref a_Change)))
    (pg_Change : PySem.W.plainGet K a_Change Str.empty = true)
    (hx_Change : PySem.W.hasDictIn K a_Change = true)
    (po_Change : PySem.W.plainOver K a_Change = true)
    (st_Change : PySem.W.findIn K (.ref a_Change) "__setattr__" = some (some (.builtin "object.__setattr__")))
    (rr_Change : PySem.W.readsIn K a_Change (.type "type") = true)
    (rg_Change : PySem.W.specialIn K (.ref a_Change) "__getattribute__" = some (some (.builtin "type.__getattribute__")))
    (mi_Change : PySem.W.makesIn K a_Change = true)
    (ko_Change : PySem.W.keepIn K (.ref a_Change) = true)
    (sf_Change : PySem.W.selfFirst K a_Change = true)
    (na_Change_assignments : PySem.W.findIn K (.ref a_Change) "assignments" = some none)
    (cv_Change_MOST : PySem.W.findCls K (.ref a_Change) (.type "type") "MOST" = some (.val (.int 3 u_Change_MOST)))
    (a_is_name : PySem.W.nsIn K mainGlobals "is_name" = some (some (.ref f_is_name)))
    (l_is_name : K.lookup f_is_name = some ⟨oc_is_name, od_is_name, .func (PySem.W.fnOf "is_name" "is_name" (defArgs s_is_name) (defBody s_is_name) (defScope s_is_name) .none kV_is_name dc_is_name pm_is_name an_is_name cd_is_name ct_is_name), sl_is_name⟩)
    (c_is_name : PySem.W.codeIn K cd_is_name "is_name" = true)
    (k_is_name : PySem.W.keepIn K (.ref f_is_name) = true)
    (a_run_end : PySem.W.nsIn K mainGlobals "run_end" = some (some (.ref f_run_end)))
    (l_run_end : K.lookup f_run_end = some ⟨oc_run_end, od_run_end, .func (PySem.W.fnOf "run_end" "run_end" (defArgs s_run_end) (defBody s_run_end) (defScope s_run_end) .none kV_run_end dc_run_end pm_run_end an_run_end cd_run_end ct_run_end), sl_run_end⟩)
    (c_run_end : PySem.W.codeIn K cd_run_end "run_end" = true)
    (k_run_end : PySem.W.keepIn K (.ref f_run_end) = true)
    (a_token_end : PySem.W.nsIn K mainGlobals "token_end" = some (some (.ref f_token_end)))
    (l_token_end : K.lookup f_token_end = some ⟨oc_token_end, od_token_end, .func (PySem.W.fnOf "token_end" "token_end" (defArgs s_token_end) (defBody s_token_end) (defScope s_token_end) .none kV_token_end dc_token_end pm_token_end an_token_end cd_token_end ct_token_end), sl_token_end⟩)
    (c_token_end : PySem.W.codeIn K cd_token_end "token_end" = true)
    (k_token_end : PySem.W.keepIn K (.ref f_token_end) = true)
    (a_split_line : PySem.W.nsIn K mainGlobals "split_line" = some (some (.ref f_split_line)))
    (l_split_line : K.lookup f_split_line = some ⟨oc_split_line, od_split_line, .func (PySem.W.fnOf "split_line" "split_line" (defArgs s_split_line) (defBody s_split_line) (defScope s_split_line) .none kV_split_line dc_split_line pm_split_line an_split_line cd_split_line ct_split_line), sl_split_line⟩)
    (c_split_line : PySem.W.codeIn K cd_split_line "split_line" = true)
    (k_split_line : PySem.W.keepIn K (.ref f_split_line) = true)
    (a_in_bound : PySem.W.nsIn K mainGlobals "in_bound" = some (some (.ref f_in_bound)))
    (l_in_bound : K.lookup f_in_bound = some ⟨oc_in_bound, od_in_bound, .func (PySem.W.fnOf "in_bound" "in_bound" (defArgs s_in_bound) (defBody s_in_bound) (defScope s_in_bound) .none kV_in_bound dc_in_bound pm_in_bound an_in_bound cd_in_bound ct_in_bound), sl_in_bound⟩)
    (c_in_bound : PySem.W.codeIn K cd_in_bound "in_bound" = true)
    (k_in_bound : PySem.W.keepIn K (.ref f_in_bound) = true)
    (a_check_name : PySem.W.nsIn K mainGlobals "check_name" = some (some (.ref f_check_name)))
    (l_check_name : K.lookup f_check_name = some ⟨oc_check_name, od_check_name, .func (PySem.W.fnOf "check_name" "check_name" (defArgs s_check_name) (defBody s_check_name) (defScope s_check_name) .none kV_check_name dc_check_name pm_check_name an_check_name cd_check_name ct_check_name), sl_check_name⟩)
    (c_check_name : PySem.W.codeIn K cd_check_name "check_name" = true)
    (k_check_name : PySem.W.keepIn K (.ref f_check_name) = true)
    (a_check_number : PySem.W.nsIn K mainGlobals "check_number" = some (some (.ref f_check_number)))
    (l_check_number : K.lookup f_check_number = some ⟨oc_check_number, od_check_number, .func (PySem.W.fnOf "check_number" "check_number" (defArgs s_check_number) (defBody s_check_number) (defScope s_check_number) .none kV_check_number dc_check_number pm_check_number an_check_number cd_check_number ct_check_number), sl_check_number⟩)
    (c_check_number : PySem.W.codeIn K cd_check_number "check_number" = true)
    (k_check_number : PySem.W.keepIn K (.ref f_check_number) = true)
    (a_is_integer : PySem.W.nsIn K mainGlobals "is_integer" = some (some (.ref f_is_integer)))
    (l_is_integer : K.lookup f_is_integer = some ⟨oc_is_integer, od_is_integer, .func (PySem.W.fnOf "is_integer" "is_integer" (defArgs s_is_integer) (defBody s_is_integer) (defScope s_is_integer) .none kV_is_integer dc_is_integer pm_is_integer an_is_integer cd_is_integer ct_is_integer), sl_is_integer⟩)
    (c_is_integer : PySem.W.codeIn K cd_is_integer "is_integer" = true)
    (k_is_integer : PySem.W.keepIn K (.ref f_is_integer) = true)
    (a_followed : PySem.W.nsIn K mainGlobals "followed" = some (some (.ref f_followed)))
    (l_followed : K.lookup f_followed = some ⟨oc_followed, od_followed, .func (PySem.W.fnOf "followed" "followed" (defArgs s_followed) (defBody s_followed) (defScope s_followed) .none kV_followed dc_followed pm_followed an_followed cd_followed ct_followed), sl_followed⟩)
    (c_followed : PySem.W.codeIn K cd_followed "followed" = true)
    (k_followed : PySem.W.keepIn K (.ref f_followed) = true)
    (fa_Reader_at_end : PySem.W.findIn K (.ref a_Reader) "at_end" = some (some (.ref f_Reader_at_end)))
    (fn_Reader_at_end : PySem.W.isFn K (.ref f_Reader_at_end) = true)
    (l_Reader_at_end : K.lookup f_Reader_at_end = some ⟨oc_Reader_at_end, od_Reader_at_end, .func (PySem.W.fnOf "at_end" "Reader.at_end" (defArgs s_Reader_at_end) (defBody s_Reader_at_end) (defScope s_Reader_at_end) .none kV_Reader_at_end dc_Reader_at_end pm_Reader_at_end an_Reader_at_end cd_Reader_at_end ct_Reader_at_end), sl_Reader_at_end⟩)
    (c_Reader_at_end : PySem.W.codeIn K cd_Reader_at_end "Reader.at_end" = true)
    (k_Reader_at_end : PySem.W.keepIn K (.ref f_Reader_at_end) = true)
    (fa_Reader_ahead : PySem.W.findIn K (.ref a_Reader) "ahead" = some (some (.ref f_Reader_ahead)))
    (fn_Reader_ahead : PySem.W.isFn K (.ref f_Reader_ahead) = true)
    (l_Reader_ahead : K.lookup f_Reader_ahead = some ⟨oc_Reader_ahead, od_Reader_ahead, .func (PySem.W.fnOf "ahead" "Reader.ahead" (defArgs s_Reader_ahead) (defBody s_Reader_ahead) (defScope s_Reader_ahead) .none kV_Reader_ahead dc_Reader_ahead pm_Reader_ahead an_Reader_ahead cd_Reader_ahead ct_Reader_ahead), sl_Reader_ahead⟩)
    (c_Reader_ahead : PySem.W.codeIn K cd_Reader_ahead "Reader.ahead" = true)
    (k_Reader_ahead : PySem.W.keepIn K (.ref f_Reader_ahead) = true)
    (fa_Reader__refuse : PySem.W.findIn K (.ref a_Reader) "_refuse" = some (some (.ref f_Reader__refuse)))
    (fn_Reader__refuse : PySem.W.isFn K (.ref f_Reader__refuse) = true)
    (l_Reader__refuse : K.lookup f_Reader__refuse = some ⟨oc_Reader__refuse, od_Reader__refuse, .func (PySem.W.fnOf "_refuse" "Reader._refuse" (defArgs s_Reader__refuse) (defBody s_Reader__refuse) (defScope s_Reader__refuse) .none kV_Reader__refuse dc_Reader__refuse pm_Reader__refuse an_Reader__refuse cd_Reader__refuse ct_Reader__refuse), sl_Reader__refuse⟩)
    (c_Reader__refuse : PySem.W.codeIn K cd_Reader__refuse "Reader._refuse" = true)
    (k_Reader__refuse : PySem.W.keepIn K (.ref f_Reader__refuse) = true)
    (fa_Reader__take_if : PySem.W.findIn K (.ref a_Reader) "_take_if" = some (some (.ref f_Reader__take_if)))
    (fn_Reader__take_if : PySem.W.isFn K (.ref f_Reader__take_if) = true)
    (l_Reader__take_if : K.lookup f_Reader__take_if = some ⟨oc_Reader__take_if, od_Reader__take_if, .func (PySem.W.fnOf "_take_if" "Reader._take_if" (defArgs s_Reader__take_if) (defBody s_Reader__take_if) (defScope s_Reader__take_if) .none kV_Reader__take_if dc_Reader__take_if pm_Reader__take_if an_Reader__take_if cd_Reader__take_if ct_Reader__take_if), sl_Reader__take_if⟩)
    (c_Reader__take_if : PySem.W.codeIn K cd_Reader__take_if "Reader._take_if" = true)
    (k_Reader__take_if : PySem.W.keepIn K (.ref f_Reader__take_if) = true)
    (fa_Reader_take_one : PySem.W.findIn K (.ref a_Reader) "take_one" = some (some (.ref f_Reader_take_one)))
    (fn_Reader_take_one : PySem.W.isFn K (.ref f_Reader_take_one) = true)
    (l_Reader_take_one : K.lookup f_Reader_take_one = some ⟨oc_Reader_take_one, od_Reader_take_one, .func (PySem.W.fnOf "take_one" "Reader.take_one" (defArgs s_Reader_take_one) (defBody s_Reader_take_one) (defScope s_Reader_take_one) .none kV_Reader_take_one dc_Reader_take_one pm_Reader_take_one an_Reader_take_one cd_Reader_take_one ct_Reader_take_one), sl_Reader_take_one⟩)
    (c_Reader_take_one : PySem.W.codeIn K cd_Reader_take_one "Reader.take_one" = true)
    (k_Reader_take_one : PySem.W.keepIn K (.ref f_Reader_take_one) = true)
    (fa_Reader_take_name : PySem.W.findIn K (.ref a_Reader) "take_name" = some (some (.ref f_Reader_take_name)))
    (fn_Reader_take_name : PySem.W.isFn K (.ref f_Reader_take_name) = true)
    (l_Reader_take_name : K.lookup f_Reader_take_name = some ⟨oc_Reader_take_name, od_Reader_take_name, .func (PySem.W.fnOf "take_name" "Reader.take_name" (defArgs s_Reader_take_name) (defBody s_Reader_take_name) (defScope s_Reader_take_name) .none kV_Reader_take_name dc_Reader_take_name pm_Reader_take_name an_Reader_take_name cd_Reader_take_name ct_Reader_take_name), sl_Reader_take_name⟩)
    (c_Reader_take_name : PySem.W.codeIn K cd_Reader_take_name "Reader.take_name" = true)
    (k_Reader_take_name : PySem.W.keepIn K (.ref f_Reader_take_name) = true)
    (fa_Reader_take_integer : PySem.W.findIn K (.ref a_Reader) "take_integer" = some (some (.ref f_Reader_take_integer)))
    (fn_Reader_take_integer : PySem.W.isFn K (.ref f_Reader_take_integer) = true)
    (l_Reader_take_integer : K.lookup f_Reader_take_integer = some ⟨oc_Reader_take_integer, od_Reader_take_integer, .func (PySem.W.fnOf "take_integer" "Reader.take_integer" (defArgs s_Reader_take_integer) (defBody s_Reader_take_integer) (defScope s_Reader_take_integer) .none kV_Reader_take_integer dc_Reader_take_integer pm_Reader_take_integer an_Reader_take_integer cd_Reader_take_integer ct_Reader_take_integer), sl_Reader_take_integer⟩)
    (c_Reader_take_integer : PySem.W.codeIn K cd_Reader_take_integer "Reader.take_integer" = true)
    (k_Reader_take_integer : PySem.W.keepIn K (.ref f_Reader_take_integer) = true)
    (a_parse_assignment : PySem.W.nsIn K mainGlobals "parse_assignment" = some (some (.ref f_parse_assignment)))
    (l_parse_assignment : K.lookup f_parse_assignment = some ⟨oc_parse_assignment, od_parse_assignment, .func (PySem.W.fnOf "parse_assignment" "parse_assignment" (defArgs s_parse_assignment) (defBody s_parse_assignment) (defScope s_parse_assignment) .none kV_parse_assignment dc_parse_assignment pm_parse_assignment an_parse_assignment cd_parse_assignment ct_parse_assignment), sl_parse_assignment⟩)
    (c_parse_assignment : PySem.W.codeIn K cd_parse_assignment "parse_assignment" = true)
    (k_parse_assignment : PySem.W.keepIn K (.ref f_parse_assignment) = true)
    (fa_Reader_skip : PySem.W.findIn K (.ref a_Reader) "skip" = some (some (.ref f_Reader_skip)))
    (fn_Reader_skip : PySem.W.isFn K (.ref f_Reader_skip) = true)
    (l_Reader_skip : K.lookup f_Reader_skip = some ⟨oc_Reader_skip, od_Reader_skip, .func (PySem.W.fnOf "skip" "Reader.skip" (defArgs s_Reader_skip) (defBody s_Reader_skip) (defScope s_Reader_skip) .none kV_Reader_skip dc_Reader_skip pm_Reader_skip an_Reader_skip cd_Reader_skip ct_Reader_skip), sl_Reader_skip⟩)
    (c_Reader_skip : PySem.W.codeIn K cd_Reader_skip "Reader.skip" = true)
    (k_Reader_skip : PySem.W.keepIn K (.ref f_Reader_skip) = true)
    (a_parse_assignments : PySem.W.nsIn K mainGlobals "parse_assignments" = some (some (.ref f_parse_assignments)))
    (l_parse_assignments : K.lookup f_parse_assignments = some ⟨oc_parse_assignments, od_parse_assignments, .func (PySem.W.fnOf "parse_assignments" "parse_assignments" (defArgs s_parse_assignments) (defBody s_parse_assignments) (defScope s_parse_assignments) .none kV_parse_assignments dc_parse_assignments pm_parse_assignments an_parse_assignments cd_parse_assignments ct_parse_assignments), sl_parse_assignments⟩)
    (c_parse_assignments : PySem.W.codeIn K cd_parse_assignments "parse_assignments" = true)
    (k_parse_assignments : PySem.W.keepIn K (.ref f_parse_assignments) = true)
    (fa_Change___init__ : PySem.W.findIn K (.ref a_Change) "__init__" = some (some (.ref f_Change___init__)))
    (fn_Change___init__ : PySem.W.isFn K (.ref f_Change___init__) = true)
    (l_Change___init__ : K.lookup f_Change___init__ = some ⟨oc_Change___init__, od_Change___init__, .func (PySem.W.fnOf "__init__" "Change.__init__" (defArgs s_Change___init__) (defBody s_Change___init__) (defScope s_Change___init__) .none kV_Change___init__ dc_Change___init__ pm_Change___init__ an_Change___init__ cd_Change___init__ ct_Change___init__), sl_Change___init__⟩)
    (c_Change___init__ : PySem.W.codeIn K cd_Change___init__ "Change.__init__" = true)
    (k_Change___init__ : PySem.W.keepIn K (.ref f_Change___init__) = true)
    (sg_Change_none : PySem.W.findCls K (.ref a_Change) (.type "type") "none" = some (.get (.builtin "staticmethod.__get__") (.ref p_Change_none) .none (.ref a_Change)))
    (sr_Change_none : PySem.W.recIn K p_Change_none "staticmethod" = some (.ref f_Change_none :: r_Change_none))
    (l_Change_none : K.lookup f_Change_none = some ⟨oc_Change_none, od_Change_none, .func (PySem.W.fnOf "none" "Change.none" (defArgs s_Change_none) (defBody s_Change_none) (defScope s_Change_none) .none kV_Change_none dc_Change_none pm_Change_none an_Change_none cd_Change_none ct_Change_none), sl_Change_none⟩)
    (c_Change_none : PySem.W.codeIn K cd_Change_none "Change.none" = true)
    (k_Change_none : PySem.W.keepIn K (.ref f_Change_none) = true)
    (sg_Change_adding : PySem.W.findCls K (.ref a_Change) (.type "type") "adding" = some (.get (.builtin "staticmethod.__get__") (.ref p_Change_adding) .none (.ref a_Change)))
    (sr_Change_adding : PySem.W.recIn K p_Change_adding "staticmethod" = some (.ref f_Change_adding :: r_Change_adding))
    (l_Change_adding : K.lookup f_Change_adding = some ⟨oc_Change_adding, od_Change_adding, .func (PySem.W.fnOf "adding" "Change.adding" (defArgs s_Change_adding) (defBody s_Change_adding) (defScope s_Change_adding) .none kV_Change_adding dc_Change_adding pm_Change_adding an_Change_adding cd_Change_adding ct_Change_adding), sl_Change_adding⟩)
    (c_Change_adding : PySem.W.codeIn K cd_Change_adding "Change.adding" = true)
    (k_Change_adding : PySem.W.keepIn K (.ref f_Change_adding) = true)
    (sg_Change_setting : PySem.W.findCls K (.ref a_Change) (.type "type") "setting" = some (.get (.builtin "staticmethod.__get__") (.ref p_Change_setting) .none (.ref a_Change)))
    (sr_Change_setting : PySem.W.recIn K p_Change_setting "staticmethod" = some (.ref f_Change_setting :: r_Change_setting))
    (l_Change_setting : K.lookup f_Change_setting = some ⟨oc_Change_setting, od_Change_setting, .func (PySem.W.fnOf "setting" "Change.setting" (defArgs s_Change_setting) (defBody s_Change_setting) (defScope s_Change_setting) .none kV_Change_setting dc_Change_setting pm_Change_setting an_Change_setting cd_Change_setting ct_Change_setting), sl_Change_setting⟩)
    (c_Change_setting : PySem.W.codeIn K cd_Change_setting "Change.setting" = true)
    (k_Change_setting : PySem.W.keepIn K (.ref f_Change_setting) = true)
    (pa_Change_assigned : PySem.W.findIn K (.ref a_Change) "assigned" = some (some (.ref p_Change_assigned)))
    (ps_Change_assigned : PySem.W.specialIn K (.ref p_Change_assigned) "__get__" = some (some (.builtin "property.__get__")))
    (pt_Change_assigned : PySem.W.takesIn K (.ref p_Change_assigned) = some true)
    (pr_Change_assigned : PySem.W.recIn K p_Change_assigned "property" = some (.ref f_Change_assigned :: r_Change_assigned))
    (l_Change_assigned : K.lookup f_Change_assigned = some ⟨oc_Change_assigned, od_Change_assigned, .func (PySem.W.fnOf "assigned" "Change.assigned" (defArgs s_Change_assigned) (defBody s_Change_assigned) (defScope s_Change_assigned) .none kV_Change_assigned dc_Change_assigned pm_Change_assigned an_Change_assigned cd_Change_assigned ct_Change_assigned), sl_Change_assigned⟩)
    (c_Change_assigned : PySem.W.codeIn K cd_Change_assigned "Change.assigned" = true)
    (k_Change_assigned : PySem.W.keepIn K (.ref f_Change_assigned) = true)
    (fa_Change___rshift__ : PySem.W.findIn K (.ref a_Change) "__rshift__" = some (some (.ref f_Change___rshift__)))
    (fn_Change___rshift__ : PySem.W.isFn K (.ref f_Change___rshift__) = true)
    (l_Change___rshift__ : K.lookup f_Change___rshift__ = some ⟨oc_Change___rshift__, od_Change___rshift__, .func (PySem.W.fnOf "__rshift__" "Change.__rshift__" (defArgs s_Change___rshift__) (defBody s_Change___rshift__) (defScope s_Change___rshift__) .none kV_Change___rshift__ dc_Change___rshift__ pm_Change___rshift__ an_Change___rshift__ cd_Change___rshift__ ct_Change___rshift__), sl_Change___rshift__⟩)
    (c_Change___rshift__ : PySem.W.codeIn K cd_Change___rshift__ "Change.__rshift__" = true)
    (k_Change___rshift__ : PySem.W.keepIn K (.ref f_Change___rshift__) = true)
    (a_build_change : PySem.W.nsIn K mainGlobals "build_change" = some (some (.ref f_build_change)))
    (l_build_change : K.lookup f_build_change = some ⟨oc_build_change, od_build_change, .func (PySem.W.fnOf "build_change" "build_change" (defArgs s_build_change) (defBody s_build_change) (defScope s_build_change) .none kV_build_change dc_build_change pm_build_change an_build_change cd_build_change ct_build_change), sl_build_change⟩)
    (c_build_change : PySem.W.codeIn K cd_build_change "build_change" = true)
    (k_build_change : PySem.W.keepIn K (.ref f_build_change) = true)
    (a__law_state : PySem.W.nsIn K mainGlobals "_law_state" = some (some (.ref f__law_state)))
    (l__law_state : K.lookup f__law_state = some ⟨oc__law_state, od__law_state, .func (PySem.W.fnOf "_law_state" "_law_state" (defArgs s__law_state) (defBody s__law_state) (defScope s__law_state) .none kV__law_state dc__law_state pm__law_state an__law_state cd__law_state ct__law_state), sl__law_state⟩)
    (c__law_state : PySem.W.codeIn K cd__law_state "_law_state" = true)
    (k__law_state : PySem.W.keepIn K (.ref f__law_state) = true)
    (a__law_draw : PySem.W.nsIn K mainGlobals "_law_draw" = some (some (.ref f__law_draw)))
    (l__law_draw : K.lookup f__law_draw = some ⟨oc__law_draw, od__law_draw, .func (PySem.W.fnOf "_law_draw" "_law_draw" (defArgs s__law_draw) (defBody s__law_draw) (defScope s__law_draw) .none kV__law_draw dc__law_draw pm__law_draw an__law_draw cd__law_draw ct__law_draw), sl__law_draw⟩)
    (c__law_draw : PySem.W.codeIn K cd__law_draw "_law_draw" = true)
    (k__law_draw : PySem.W.keepIn K (.ref f__law_draw) = true)
    (a__law_pick : PySem.W.nsIn K mainGlobals "_law_pick" = some (some (.ref f__law_pick)))
    (l__law_pick : K.lookup f__law_pick = some ⟨oc__law_pick, od__law_pick, .func (PySem.W.fnOf "_law_pick" "_law_pick" (defArgs s__law_pick) (defBody s__law_pick) (defScope s__law_pick) .none kV__law_pick dc__law_pick pm__law_pick an__law_pick cd__law_pick ct__law_pick), sl__law_pick⟩)
    (c__law_pick : PySem.W.codeIn K cd__law_pick "_law_pick" = true)
    (k__law_pick : PySem.W.keepIn K (.ref f__law_pick) = true)
    (a__law_mixed : PySem.W.nsIn K mainGlobals "_law_mixed" = some (some (.ref f__law_mixed)))
    (l__law_mixed : K.lookup f__law_mixed = some ⟨oc__law_mixed, od__law_mixed, .func (PySem.W.fnOf "_law_mixed" "_law_mixed" (defArgs s__law_mixed) (defBody s__law_mixed) (defScope s__law_mixed) .none kV__law_mixed dc__law_mixed pm__law_mixed an__law_mixed cd__law_mixed ct__law_mixed), sl__law_mixed⟩)
    (c__law_mixed : PySem.W.codeIn K cd__law_mixed "_law_mixed" = true)
    (k__law_mixed : PySem.W.keepIn K (.ref f__law_mixed) = true)
    (a__law_number : PySem.W.nsIn K mainGlobals "_law_number" = some (some (.ref f__law_number)))
    (l__law_number : K.lookup f__law_number = some ⟨oc__law_number, od__law_number, .func (PySem.W.fnOf "_law_number" "_law_number" (defArgs s__law_number) (defBody s__law_number) (defScope s__law_number) .none kV__law_number dc__law_number pm__law_number an__law_number cd__law_number ct__law_number), sl__law_number⟩)
    (c__law_number : PySem.W.codeIn K cd__law_number "_law_number" = true)
    (k__law_number : PySem.W.keepIn K (.ref f__law_number) = true)
    (a__law_constant : PySem.W.nsIn K mainGlobals "_law_constant" = some (some (.ref f__law_constant)))
    (l__law_constant : K.lookup f__law_constant = some ⟨oc__law_constant, od__law_constant, .func (PySem.W.fnOf "_law_constant" "_law_constant" (defArgs s__law_constant) (defBody s__law_constant) (defScope s__law_constant) .none kV__law_constant dc__law_constant pm__law_constant an__law_constant cd__law_constant ct__law_constant), sl__law_constant⟩)
    (c__law_constant : PySem.W.codeIn K cd__law_constant "_law_constant" = true)
    (k__law_constant : PySem.W.keepIn K (.ref f__law_constant) = true)
    (a__law_names : PySem.W.nsIn K mainGlobals "_law_names" = some (some (.ref f__law_names)))
    (l__law_names : K.lookup f__law_names = some ⟨oc__law_names, od__law_names, .func (PySem.W.fnOf "_law_names" "_law_names" (defArgs s__law_names) (defBody s__law_names) (defScope s__law_names) .none kV__law_names dc__law_names pm__law_names an__law_names cd__law_names ct__law_names), sl__law_names⟩)
    (c__law_names : PySem.W.codeIn K cd__law_names "_law_names" = true)
    (k__law_names : PySem.W.keepIn K (.ref f__law_names) = true)
    (a__law_is_int : PySem.W.nsIn K mainGlobals "_law_is_int" = some (some (.ref f__law_is_int)))
    (l__law_is_int : K.lookup f__law_is_int = some ⟨oc__law_is_int, od__law_is_int, .func (PySem.W.fnOf "_law_is_int" "_law_is_int" (defArgs s__law_is_int) (defBody s__law_is_int) (defScope s__law_is_int) .none kV__law_is_int dc__law_is_int pm__law_is_int an__law_is_int cd__law_is_int ct__law_is_int), sl__law_is_int⟩)
    (c__law_is_int : PySem.W.codeIn K cd__law_is_int "_law_is_int" = true)
    (k__law_is_int : PySem.W.keepIn K (.ref f__law_is_int) = true)
    (a__law_same : PySem.W.nsIn K mainGlobals "_law_same" = some (some (.ref f__law_same)))
    (l__law_same : K.lookup f__law_same = some ⟨oc__law_same, od__law_same, .func (PySem.W.fnOf "_law_same" "_law_same" (defArgs s__law_same) (defBody s__law_same) (defScope s__law_same) .none kV__law_same dc__law_same pm__law_same an__law_same cd__law_same ct__law_same), sl__law_same⟩)
    (c__law_same : PySem.W.codeIn K cd__law_same "_law_same" = true)
    (k__law_same : PySem.W.keepIn K (.ref f__law_same) = true)
    (a__law_change : PySem.W.nsIn K mainGlobals "_law_change" = some (some (.ref f__law_change)))
    (l__law_change : K.lookup f__law_change = some ⟨oc__law_change, od__law_change, .func (PySem.W.fnOf "_law_change" "_law_change" (defArgs s__law_change) (defBody s__law_change) (defScope s__law_change) .none kV__law_change dc__law_change pm__law_change an__law_change cd__law_change ct__law_change), sl__law_change⟩)
    (c__law_change : PySem.W.codeIn K cd__law_change "_law_change" = true)
    (k__law_change : PySem.W.keepIn K (.ref f__law_change) = true)
    (a__law_rows_text : PySem.W.nsIn K mainGlobals "_law_rows_text" = some (some (.ref f__law_rows_text)))
    (l__law_rows_text : K.lookup f__law_rows_text = some ⟨oc__law_rows_text, od__law_rows_text, .func (PySem.W.fnOf "_law_rows_text" "_law_rows_text" (defArgs s__law_rows_text) (defBody s__law_rows_text) (defScope s__law_rows_text) .none kV__law_rows_text dc__law_rows_text pm__law_rows_text an__law_rows_text cd__law_rows_text ct__law_rows_text), sl__law_rows_text⟩)
    (c__law_rows_text : PySem.W.codeIn K cd__law_rows_text "_law_rows_text" = true)
    (k__law_rows_text : PySem.W.keepIn K (.ref f__law_rows_text) = true)
    (a__law_some_rows : PySem.W.nsIn K mainGlobals "_law_some_rows" = some (some (.ref f__law_some_rows)))
    (l__law_some_rows : K.lookup f__law_some_rows = some ⟨oc__law_some_rows, od__law_some_rows, .func (PySem.W.fnOf "_law_some_rows" "_law_some_rows" (defArgs s__law_some_rows) (defBody s__law_some_rows) (defScope s__law_some_rows) .none kV__law_some_rows dc__law_some_rows pm__law_some_rows an__law_some_rows cd__law_some_rows ct__law_some_rows), sl__law_some_rows⟩)
    (c__law_some_rows : PySem.W.codeIn K cd__law_some_rows "_law_some_rows" = true)
    (k__law_some_rows : PySem.W.keepIn K (.ref f__law_some_rows) = true)
    (a__law_chained : PySem.W.nsIn K mainGlobals "_law_chained" = some (some (.ref f__law_chained)))
    (l__law_chained : K.lookup f__law_chained = some ⟨oc__law_chained, od__law_chained, .func (PySem.W.fnOf "_law_chained" "_law_chained" (defArgs s__law_chained) (defBody s__law_chained) (defScope s__law_chained) .none kV__law_chained dc__law_chained pm__law_chained an__law_chained cd__law_chained ct__law_chained), sl__law_chained⟩)
    (c__law_chained : PySem.W.codeIn K cd__law_chained "_law_chained" = true)
    (k__law_chained : PySem.W.keepIn K (.ref f__law_chained) = true)
    (a__law_touch : PySem.W.nsIn K mainGlobals "_law_touch" = some (some (.ref f__law_touch)))
    (l__law_touch : K.lookup f__law_touch = some ⟨oc__law_touch, od__law_touch, .func (PySem.W.fnOf "_law_touch" "_law_touch" (defArgs s__law_touch) (defBody s__law_touch) (defScope s__law_touch) .none kV__law_touch dc__law_touch pm__law_touch an__law_touch cd__law_touch ct__law_touch), sl__law_touch⟩)
    (c__law_touch : PySem.W.codeIn K cd__law_touch "_law_touch" = true)
    (k__law_touch : PySem.W.keepIn K (.ref f__law_touch) = true)
    (a__law_laid : PySem.W.nsIn K mainGlobals "_law_laid" = some (some (.ref f__law_laid)))
    (l__law_laid : K.lookup f__law_laid = some ⟨oc__law_laid, od__law_laid, .func (PySem.W.fnOf "_law_laid" "_law_laid" (defArgs s__law_laid) (defBody s__law_laid) (defScope s__law_laid) .none kV__law_laid dc__law_laid pm__law_laid an__law_laid cd__law_laid ct__law_laid), sl__law_laid⟩)
    (c__law_laid : PySem.W.codeIn K cd__law_laid "_law_laid" = true)
    (k__law_laid : PySem.W.keepIn K (.ref f__law_laid) = true)
    (fa_Reader___init__ : PySem.W.findIn K (.ref a_Reader) "__init__" = some (some (.ref f_Reader___init__)))
    (fn_Reader___init__ : PySem.W.isFn K (.ref f_Reader___init__) = true)
    (l_Reader___init__ : K.lookup f_Reader___init__ = some ⟨oc_Reader___init__, od_Reader___init__, .func (PySem.W.fnOf "__init__" "Reader.__init__" (defArgs s_Reader___init__) (defBody s_Reader___init__) (defScope s_Reader___init__) (.ref dT_Reader___init__) kV_Reader___init__ dc_Reader___init__ pm_Reader___init__ an_Reader___init__ cd_Reader___init__ ct_Reader___init__), sl_Reader___init__⟩)
    (ld_Reader___init__ : K.lookup dT_Reader___init__ = some ⟨.type "tuple", dd_Reader___init__, .seq ds_Reader___init__ dn_Reader___init__, dl_Reader___init__⟩)
    (v_d_Reader___init__ : Vals [(.int 1)] ds_Reader___init__.toList)
    (c_Reader___init__ : PySem.W.codeIn K cd_Reader___init__ "Reader.__init__" = true)
    (k_Reader___init__ : PySem.W.keepIn K (.ref f_Reader___init__) = true)
    (fa_Reader_take_end : PySem.W.findIn K (.ref a_Reader) "take_end" = some (some (.ref f_Reader_take_end)))
    (fn_Reader_take_end : PySem.W.isFn K (.ref f_Reader_take_end) = true)
    (l_Reader_take_end : K.lookup f_Reader_take_end = some ⟨oc_Reader_take_end, od_Reader_take_end, .func (PySem.W.fnOf "take_end" "Reader.take_end" (defArgs s_Reader_take_end) (defBody s_Reader_take_end) (defScope s_Reader_take_end) .none kV_Reader_take_end dc_Reader_take_end pm_Reader_take_end an_Reader_take_end cd_Reader_take_end ct_Reader_take_end), sl_Reader_take_end⟩)
    (c_Reader_take_end : PySem.W.codeIn K cd_Reader_take_end "Reader.take_end" = true)
    (k_Reader_take_end : PySem.W.keepIn K (.ref f_Reader_take_end) = true)
    (sg_Change_read : PySem.W.findCls K (.ref a_Change) (.type "type") "read" = some (.get (.builtin "staticmethod.__get__") (.ref p_Change_read) .none (.ref a_Change)))
    (sr_Change_read : PySem.W.recIn K p_Change_read "staticmethod" = some (.ref f_Change_read :: r_Change_read))
    (l_Change_read : K.lookup f_Change_read = some ⟨oc_Change_read, od_Change_read, .func (PySem.W.fnOf "read" "Change.read" (defArgs s_Change_read) (defBody s_Change_read) (defScope s_Change_read) .none kV_Change_read dc_Change_read pm_Change_read an_Change_read cd_Change_read ct_Change_read), sl_Change_read⟩)
    (c_Change_read : PySem.W.codeIn K cd_Change_read "Change.read" = true)
    (k_Change_read : PySem.W.keepIn K (.ref f_Change_read) = true)
    (a__law_read_it : PySem.W.nsIn K mainGlobals "_law_read_it" = some (some (.ref f__law_read_it)))
    (l__law_read_it : K.lookup f__law_read_it = some ⟨oc__law_read_it, od__law_read_it, .func (PySem.W.fnOf "_law_read_it" "_law_read_it" (defArgs s__law_read_it) (defBody s__law_read_it) (defScope s__law_read_it) .none kV__law_read_it dc__law_read_it pm__law_read_it an__law_read_it cd__law_read_it ct__law_read_it), sl__law_read_it⟩)
    (c__law_read_it : PySem.W.codeIn K cd__law_read_it "_law_read_it" = true)
    (k__law_read_it : PySem.W.keepIn K (.ref f__law_read_it) = true)
    (a__law_words : PySem.W.nsIn K mainGlobals "_law_words" = some (some (.ref f__law_words)))
    (l__law_words : K.lookup f__law_words = some ⟨oc__law_words, od__law_words, .func (PySem.W.fnOf "_law_words" "_law_words" (defArgs s__law_words) (defBody s__law_words) (defScope s__law_words) .none kV__law_words dc__law_words pm__law_words an__law_words cd__law_words ct__law_words), sl__law_words⟩)
    (c__law_words : PySem.W.codeIn K cd__law_words "_law_words" = true)
    (k__law_words : PySem.W.keepIn K (.ref f__law_words) = true)
    (a__law_folded : PySem.W.nsIn K mainGlobals "_law_folded" = some (some (.ref f__law_folded)))
    (l__law_folded : K.lookup f__law_folded = some ⟨oc__law_folded, od__law_folded, .func (PySem.W.fnOf "_law_folded" "_law_folded" (defArgs s__law_folded) (defBody s__law_folded) (defScope s__law_folded) .none kV__law_folded dc__law_folded pm__law_folded an__law_folded cd__law_folded ct__law_folded), sl__law_folded⟩)
    (c__law_folded : PySem.W.codeIn K cd__law_folded "_law_folded" = true)
    (k__law_folded : PySem.W.keepIn K (.ref f__law_folded) = true)
    (a__law_lets : PySem.W.nsIn K mainGlobals "_law_lets" = some (some (.ref f__law_lets)))
    (l__law_lets : K.lookup f__law_lets = some ⟨oc__law_lets, od__law_lets, .func (PySem.W.fnOf "_law_lets" "_law_lets" (defArgs s__law_lets) (defBody s__law_lets) (defScope s__law_lets) .none kV__law_lets dc__law_lets pm__law_lets an__law_lets cd__law_lets ct__law_lets), sl__law_lets⟩)
    (c__law_lets : PySem.W.codeIn K cd__law_lets "_law_lets" = true)
    (k__law_lets : PySem.W.keepIn K (.ref f__law_lets) = true)
    (a__law_asks : PySem.W.nsIn K mainGlobals "_law_asks" = some (some (.ref f__law_asks)))
    (l__law_asks : K.lookup f__law_asks = some ⟨oc__law_asks, od__law_asks, .func (PySem.W.fnOf "_law_asks" "_law_asks" (defArgs s__law_asks) (defBody s__law_asks) (defScope s__law_asks) .none kV__law_asks dc__law_asks pm__law_asks an__law_asks cd__law_asks ct__law_asks), sl__law_asks⟩)
    (c__law_asks : PySem.W.codeIn K cd__law_asks "_law_asks" = true)
    (k__law_asks : PySem.W.keepIn K (.ref f__law_asks) = true)
    (a__law_unfit : PySem.W.nsIn K mainGlobals "_law_unfit" = some (some (.ref f__law_unfit)))
    (l__law_unfit : K.lookup f__law_unfit = some ⟨oc__law_unfit, od__law_unfit, .func (PySem.W.fnOf "_law_unfit" "_law_unfit" (defArgs s__law_unfit) (defBody s__law_unfit) (defScope s__law_unfit) .none kV__law_unfit dc__law_unfit pm__law_unfit an__law_unfit cd__law_unfit ct__law_unfit), sl__law_unfit⟩)
    (c__law_unfit : PySem.W.codeIn K cd__law_unfit "_law_unfit" = true)
    (k__law_unfit : PySem.W.keepIn K (.ref f__law_unfit) = true)
    (a__law_spoils : PySem.W.nsIn K mainGlobals "_law_spoils" = some (some (.ref f__law_spoils)))
    (l__law_spoils : K.lookup f__law_spoils = some ⟨oc__law_spoils, od__law_spoils, .func (PySem.W.fnOf "_law_spoils" "_law_spoils" (defArgs s__law_spoils) (defBody s__law_spoils) (defScope s__law_spoils) .none kV__law_spoils dc__law_spoils pm__law_spoils an__law_spoils cd__law_spoils ct__law_spoils), sl__law_spoils⟩)
    (c__law_spoils : PySem.W.codeIn K cd__law_spoils "_law_spoils" = true)
    (k__law_spoils : PySem.W.keepIn K (.ref f__law_spoils) = true)
    (fa_Change_text : PySem.W.findIn K (.ref a_Change) "text" = some (some (.ref f_Change_text)))
    (fn_Change_text : PySem.W.isFn K (.ref f_Change_text) = true)
    (l_Change_text : K.lookup f_Change_text = some ⟨oc_Change_text, od_Change_text, .func (PySem.W.fnOf "text" "Change.text" (defArgs s_Change_text) (defBody s_Change_text) (defScope s_Change_text) .none kV_Change_text dc_Change_text pm_Change_text an_Change_text cd_Change_text ct_Change_text), sl_Change_text⟩)
    (c_Change_text : PySem.W.codeIn K cd_Change_text "Change.text" = true)
    (k_Change_text : PySem.W.keepIn K (.ref f_Change_text) = true)
    (a_law : PySem.W.nsIn K mainGlobals "law" = some (some (.ref f_law)))
    (l_law : K.lookup f_law = some ⟨oc_law, od_law, .func (PySem.W.fnOf "law" "law" (defArgs s_law) (defBody s_law) (defScope s_law) .none kV_law dc_law pm_law an_law cd_law ct_law), sl_law⟩)
    (c_law : PySem.W.codeIn K cd_law "law" = true)
    (k_law : PySem.W.keepIn K (.ref f_law) = true)
    (z_ValueError : PySem.W.nsIn K mainGlobals "ValueError" = some none)
    (z_all : PySem.W.nsIn K mainGlobals "all" = some none)
    (z_bool : PySem.W.nsIn K mainGlobals "bool" = some none)
    (z_dict : PySem.W.nsIn K mainGlobals "dict" = some none)
    (z_int : PySem.W.nsIn K mainGlobals "int" = some none)
    (z_isinstance : PySem.W.nsIn K mainGlobals "isinstance" = some none)
    (z_len : PySem.W.nsIn K mainGlobals "len" = some none)
    (z_list : PySem.W.nsIn K mainGlobals "list" = some none)
    (z_property : PySem.W.nsIn K mainGlobals "property" = some none)
    (z_range : PySem.W.nsIn K mainGlobals "range" = some none)
    (z_staticmethod : PySem.W.nsIn K mainGlobals "staticmethod" = some none)
    (z_str : PySem.W.nsIn K mainGlobals "str" = some none)
    (z_super : PySem.W.nsIn K mainGlobals "super" = some none)
    (z_tuple : PySem.W.nsIn K mainGlobals "tuple" = some none)
    (g_BOUND : PySem.W.nsIn K mainGlobals "BOUND" = some (some (.int 1000000000000000000000000000000 t_BOUND)))
    (g_DIGITS : PySem.W.nsIn K mainGlobals "DIGITS" = some (some (.str "0123456789" t_DIGITS)))
    (g_LETTERS : PySem.W.nsIn K mainGlobals "LETTERS" = some (some (.str "abcdefghijklmnopqrstuvwxyz" t_LETTERS)))
    (g_LONGEST_INTEGER : PySem.W.nsIn K mainGlobals "LONGEST_INTEGER" = some (some (.int 32 t_LONGEST_INTEGER)))
    (g_LONGEST_NAME : PySem.W.nsIn K mainGlobals "LONGEST_NAME" = some (some (.int 12 t_LONGEST_NAME)))
    (g_MARKS : PySem.W.nsIn K mainGlobals "MARKS" = some (some (.ref a_MARKS)))
    (l_MARKS : K.lookup a_MARKS = some ⟨.type "tuple", od_MARKS, .seq its_MARKS n_MARKS, sl_MARKS⟩)
    (v_MARKS : Vals [(.str "("), (.str ")"), (.str ","), (.str ";"), (.str ":")] its_MARKS.toList)
    (g_RESERVED : PySem.W.nsIn K mainGlobals "RESERVED" = some (some (.ref a_RESERVED)))
    (l_RESERVED : K.lookup a_RESERVED = some ⟨.type "tuple", od_RESERVED, .seq its_RESERVED n_RESERVED, sl_RESERVED⟩)
    (v_RESERVED : Vals [(.str "always"), (.str "never"), (.str "and"), (.str "or"), (.str "not"), (.str "when"), (.str "add"), (.str "set"), (.str "change"), (.str "tell"), (.str "refuse"), (.str "take"), (.str "look"), (.str "free"), (.str "lock"), (.str "keep"), (.str "keys"), (.str "fields")] its_RESERVED.toList)
    (g_SIGNS : PySem.W.nsIn K mainGlobals "SIGNS" = some (some (.ref a_SIGNS)))
    (l_SIGNS : K.lookup a_SIGNS = some ⟨.type "tuple", od_SIGNS, .seq its_SIGNS n_SIGNS, sl_SIGNS⟩)
    (v_SIGNS : Vals [(.str "<"), (.str "<="), (.str "=="), (.str "!="), (.str ">="), (.str ">")] its_SIGNS.toList)
    (g_BadName : PySem.W.nsIn K mainGlobals "BadName" = some (some (.ref a_BadName)))
    (g_BadNumber : PySem.W.nsIn K mainGlobals "BadNumber" = some (some (.ref a_BadNumber)))
    (g_BadText : PySem.W.nsIn K mainGlobals "BadText" = some (some (.ref a_BadText)))
    (g_ElseputError : PySem.W.nsIn K mainGlobals "ElseputError" = some (some (.ref a_ElseputError)))
    (g_TooLarge : PySem.W.nsIn K mainGlobals "TooLarge" = some (some (.ref a_TooLarge)))
    (st_any : PySem.W.nsIn K PySem.cStatics "thirdparty.any" = some none)
    (htop : (l.prog.main.scope.names.lookup ("super" : Str)).isSome = false)
    (xc_BadName : K.lookup a_BadName = some (excClassObj nm_BadName q_BadName a_BadName N_BadName bs_BadName bm_BadName true sn_BadName sub_BadName ab_BadName col_BadName dd_BadName e0_BadName e1_BadName e2_BadName e3_BadName e5_BadName "ValueError.__new__"))
    (ref_BadName : PySem.HandSPX.refsVE bm_BadName = true)
    (sa_BadName : PySem.W.findIn K (.ref a_BadName) "__setattr__" = some (some (.builtin "object.__setattr__")))
    (eb_BadName : PySem.W.subIn K (.ref a_BadName) (.type "BaseException") = some true)
    (ty_BadName : PySem.W.typeIn K (.ref a_BadName) = some (.type "type"))
    (kC_BadName : PySem.W.keepIn K (.ref a_BadName) = true)
    (iC_BadName : PySem.W.findIn K (.ref a_BadName) "__init__" = some (some (.ref f_BadName)))
    (tI_BadName : PySem.W.typeIn K (.ref f_BadName) = some (.type "function"))
    (sup_BadName : PySem.W.ks_superIn K a_BadName a_BadName "__init__" = some (some (.builtin "ValueError.__init__")))
    (sv_BadName : PySem.W.subIn K (.ref a_BadName) (.type "ValueError") = some true)
    (mro_BadName : PySem.W.mroIn K a_BadName (.ref a_BadName) = some true)
    (no0_BadName : PySem.W.findIn K (.ref a_BadName) "name" = some none)
    (ga_BadName : PySem.W.findIn K (.ref a_BadName) "__getattribute__" = some (some (.builtin "BaseException.__getattribute__")))
    (gg_BadName : PySem.W.findIn K (.ref a_BadName) "__getattr__" = some none)
    (hd_BadName : PySem.W.hasDictIn K a_BadName = true)
    (hcl_BadName : PySem.W.findIn K (.ref a_BadName) "__class__" = some (some (.builtin "object.__class__")))
    (hn_BadName : PySem.W.specialIn K (.builtin "object.__class__") "__get__" = some (some (.builtin "getset_descriptor.__get__")))
    (ht_BadName : PySem.W.takesIn K (.builtin "object.__class__") = some true)
    (hm_BadName : PySem.W.mroIn K a_BadName (.type "object") = some true)
    (lf_BadName : K.lookup f_BadName = some ⟨oc_BadName, od_BadName, .func (PySem.W.fnX "__init__" "BadName.__init__" (defArgs s_BadName) (defBody s_BadName) (defScope s_BadName) [("__class__", cc_BadName)] .none .none doc_BadName pm_BadName none (.ref cda_BadName) ct_BadName), osl_BadName⟩)
    (cd_BadName : PySem.W.codeIn K (.ref cda_BadName) "BadName.__init__" = true)
    (lc_BadName : K.lookup cda_BadName = some ⟨ccl_BadName, cdd_BadName, .fields vs_BadName, ccs_BadName⟩)
    (v2_BadName : vs_BadName[2]? = some (.str file_BadName tf_BadName))
    (fe_BadName : ((l.prog.main.file : Str) == file_BadName) = true)
    (lcc_BadName : K.lookup cc_BadName = some ⟨cl_BadName, cld_BadName, .cell (some (.ref a_BadName)), csl_BadName⟩)
    (hD_BadName : PySem.W.clsIn K a_BadName = some cdD_BadName)
    (xc_BadNumber : K.lookup a_BadNumber = some (excClassObj nm_BadNumber q_BadNumber a_BadNumber N_BadNumber bs_BadNumber bm_BadNumber true sn_BadNumber sub_BadNumber ab_BadNumber col_BadNumber dd_BadNumber e0_BadNumber e1_BadNumber e2_BadNumber e3_BadNumber e5_BadNumber "ValueError.__new__"))
    (ref_BadNumber : PySem.HandSPX.refsVE bm_BadNumber = true)
    (sa_BadNumber : PySem.W.findIn K (.ref a_BadNumber) "__setattr__" = some (some (.builtin "object.__setattr__")))
    (eb_BadNumber : PySem.W.subIn K (.ref a_BadNumber) (.type "BaseException") = some true)
    (ty_BadNumber : PySem.W.typeIn K (.ref a_BadNumber) = some (.type "type"))
    (kC_BadNumber : PySem.W.keepIn K (.ref a_BadNumber) = true)
    (iC_BadNumber : PySem.W.findIn K (.ref a_BadNumber) "__init__" = some (some (.ref f_BadNumber)))
    (tI_BadNumber : PySem.W.typeIn K (.ref f_BadNumber) = some (.type "function"))
    (sup_BadNumber : PySem.W.ks_superIn K a_BadNumber a_BadNumber "__init__" = some (some (.builtin "ValueError.__init__")))
    (sv_BadNumber : PySem.W.subIn K (.ref a_BadNumber) (.type "ValueError") = some true)
    (mro_BadNumber : PySem.W.mroIn K a_BadNumber (.ref a_BadNumber) = some true)
    (no0_BadNumber : PySem.W.findIn K (.ref a_BadNumber) "value" = some none)
    (ga_BadNumber : PySem.W.findIn K (.ref a_BadNumber) "__getattribute__" = some (some (.builtin "BaseException.__getattribute__")))
    (gg_BadNumber : PySem.W.findIn K (.ref a_BadNumber) "__getattr__" = some none)
    (hd_BadNumber : PySem.W.hasDictIn K a_BadNumber = true)
    (hcl_BadNumber : PySem.W.findIn K (.ref a_BadNumber) "__class__" = some (some (.builtin "object.__class__")))
    (hn_BadNumber : PySem.W.specialIn K (.builtin "object.__class__") "__get__" = some (some (.builtin "getset_descriptor.__get__")))
    (ht_BadNumber : PySem.W.takesIn K (.builtin "object.__class__") = some true)
    (hm_BadNumber : PySem.W.mroIn K a_BadNumber (.type "object") = some true)
    (lf_BadNumber : K.lookup f_BadNumber = some ⟨oc_BadNumber, od_BadNumber, .func (PySem.W.fnX "__init__" "BadNumber.__init__" (defArgs s_BadNumber) (defBody s_BadNumber) (defScope s_BadNumber) [("__class__", cc_BadNumber)] .none .none doc_BadNumber pm_BadNumber none (.ref cda_BadNumber) ct_BadNumber), osl_BadNumber⟩)
    (cd_BadNumber : PySem.W.codeIn K (.ref cda_BadNumber) "BadNumber.__init__" = true)
    (lc_BadNumber : K.lookup cda_BadNumber = some ⟨ccl_BadNumber, cdd_BadNumber, .fields vs_BadNumber, ccs_BadNumber⟩)
    (v2_BadNumber : vs_BadNumber[2]? = some (.str file_BadNumber tf_BadNumber))
    (fe_BadNumber : ((l.prog.main.file : Str) == file_BadNumber) = true)
    (lcc_BadNumber : K.lookup cc_BadNumber = some ⟨cl_BadNumber, cld_BadNumber, .cell (some (.ref a_BadNumber)), csl_BadNumber⟩)
    (hD_BadNumber : PySem.W.clsIn K a_BadNumber = some cdD_BadNumber)
    (xc_BadText : K.lookup a_BadText = some (excClassObj nm_BadText q_BadText a_BadText N_BadText bs_BadText bm_BadText true sn_BadText sub_BadText ab_BadText col_BadText dd_BadText e0_BadText e1_BadText e2_BadText e3_BadText e5_BadText "ValueError.__new__"))
    (ref_BadText : PySem.HandSPX.refsVE bm_BadText = true)
    (sa_BadText : PySem.W.findIn K (.ref a_BadText) "__setattr__" = some (some (.builtin "object.__setattr__")))
    (eb_BadText : PySem.W.subIn K (.ref a_BadText) (.type "BaseException") = some true)
    (ty_BadText : PySem.W.typeIn K (.ref a_BadText) = some (.type "type"))
    (kC_BadText : PySem.W.keepIn K (.ref a_BadText) = true)
    (iC_BadText : PySem.W.findIn K (.ref a_BadText) "__init__" = some (some (.ref f_BadText)))
    (tI_BadText : PySem.W.typeIn K (.ref f_BadText) = some (.type "function"))
    (sup_BadText : PySem.W.ks_superIn K a_BadText a_BadText "__init__" = some (some (.builtin "ValueError.__init__")))
    (sv_BadText : PySem.W.subIn K (.ref a_BadText) (.type "ValueError") = some true)
    (mro_BadText : PySem.W.mroIn K a_BadText (.ref a_BadText) = some true)
    (no0_BadText : PySem.W.findIn K (.ref a_BadText) "line" = some none)
    (no1_BadText : PySem.W.findIn K (.ref a_BadText) "column" = some none)
    (ga_BadText : PySem.W.findIn K (.ref a_BadText) "__getattribute__" = some (some (.builtin "BaseException.__getattribute__")))
    (gg_BadText : PySem.W.findIn K (.ref a_BadText) "__getattr__" = some none)
    (hd_BadText : PySem.W.hasDictIn K a_BadText = true)
    (hcl_BadText : PySem.W.findIn K (.ref a_BadText) "__class__" = some (some (.builtin "object.__class__")))
    (hn_BadText : PySem.W.specialIn K (.builtin "object.__class__") "__get__" = some (some (.builtin "getset_descriptor.__get__")))
    (ht_BadText : PySem.W.takesIn K (.builtin "object.__class__") = some true)
    (hm_BadText : PySem.W.mroIn K a_BadText (.type "object") = some true)
    (lf_BadText : K.lookup f_BadText = some ⟨oc_BadText, od_BadText, .func (PySem.W.fnX "__init__" "BadText.__init__" (defArgs s_BadText) (defBody s_BadText) (defScope s_BadText) [("__class__", cc_BadText)] .none .none doc_BadText pm_BadText none (.ref cda_BadText) ct_BadText), osl_BadText⟩)
    (cd_BadText : PySem.W.codeIn K (.ref cda_BadText) "BadText.__init__" = true)
    (lc_BadText : K.lookup cda_BadText = some ⟨ccl_BadText, cdd_BadText, .fields vs_BadText, ccs_BadText⟩)
    (v2_BadText : vs_BadText[2]? = some (.str file_BadText tf_BadText))
    (fe_BadText : ((l.prog.main.file : Str) == file_BadText) = true)
    (lcc_BadText : K.lookup cc_BadText = some ⟨cl_BadText, cld_BadText, .cell (some (.ref a_BadText)), csl_BadText⟩)
    (hD_BadText : PySem.W.clsIn K a_BadText = some cdD_BadText)
    (xc_TooLarge : K.lookup a_TooLarge = some (excClassObj nm_TooLarge q_TooLarge a_TooLarge N_TooLarge bs_TooLarge bm_TooLarge true sn_TooLarge sub_TooLarge ab_TooLarge col_TooLarge dd_TooLarge e0_TooLarge e1_TooLarge e2_TooLarge e3_TooLarge e5_TooLarge "ValueError.__new__"))
    (ref_TooLarge : PySem.HandSPX.refsVE bm_TooLarge = true)
    (sa_TooLarge : PySem.W.findIn K (.ref a_TooLarge) "__setattr__" = some (some (.builtin "object.__setattr__")))
    (eb_TooLarge : PySem.W.subIn K (.ref a_TooLarge) (.type "BaseException") = some true)
    (ty_TooLarge : PySem.W.typeIn K (.ref a_TooLarge) = some (.type "type"))
    (kC_TooLarge : PySem.W.keepIn K (.ref a_TooLarge) = true)
    (iC_TooLarge : PySem.W.findIn K (.ref a_TooLarge) "__init__" = some (some (.ref f_TooLarge)))
    (tI_TooLarge : PySem.W.typeIn K (.ref f_TooLarge) = some (.type "function"))
    (sup_TooLarge : PySem.W.ks_superIn K a_TooLarge a_TooLarge "__init__" = some (some (.builtin "ValueError.__init__")))
    (sv_TooLarge : PySem.W.subIn K (.ref a_TooLarge) (.type "ValueError") = some true)
    (mro_TooLarge : PySem.W.mroIn K a_TooLarge (.ref a_TooLarge) = some true)
    (no0_TooLarge : PySem.W.findIn K (.ref a_TooLarge) "most" = some none)
    (ga_TooLarge : PySem.W.findIn K (.ref a_TooLarge) "__getattribute__" = some (some (.builtin "BaseException.__getattribute__")))
    (gg_TooLarge : PySem.W.findIn K (.ref a_TooLarge) "__getattr__" = some none)
    (hd_TooLarge : PySem.W.hasDictIn K a_TooLarge = true)
    (hcl_TooLarge : PySem.W.findIn K (.ref a_TooLarge) "__class__" = some (some (.builtin "object.__class__")))
    (hn_TooLarge : PySem.W.specialIn K (.builtin "object.__class__") "__get__" = some (some (.builtin "getset_descriptor.__get__")))
    (ht_TooLarge : PySem.W.takesIn K (.builtin "object.__class__") = some true)
    (hm_TooLarge : PySem.W.mroIn K a_TooLarge (.type "object") = some true)
    (lf_TooLarge : K.lookup f_TooLarge = some ⟨oc_TooLarge, od_TooLarge, .func (PySem.W.fnX "__init__" "TooLarge.__init__" (defArgs s_TooLarge) (defBody s_TooLarge) (defScope s_TooLarge) [("__class__", cc_TooLarge)] .none .none doc_TooLarge pm_TooLarge none (.ref cda_TooLarge) ct_TooLarge), osl_TooLarge⟩)
    (cd_TooLarge : PySem.W.codeIn K (.ref cda_TooLarge) "TooLarge.__init__" = true)
    (lc_TooLarge : K.lookup cda_TooLarge = some ⟨ccl_TooLarge, cdd_TooLarge, .fields vs_TooLarge, ccs_TooLarge⟩)
    (v2_TooLarge : vs_TooLarge[2]? = some (.str file_TooLarge tf_TooLarge))
    (fe_TooLarge : ((l.prog.main.file : Str) == file_TooLarge) = true)
    (lcc_TooLarge : K.lookup cc_TooLarge = some ⟨cl_TooLarge, cld_TooLarge, .cell (some (.ref a_TooLarge)), csl_TooLarge⟩)
    (hD_TooLarge : PySem.W.clsIn K a_TooLarge = some cdD_TooLarge)
    (mb_ElseputError : PySem.W.subIn K (.ref a_ElseputError) (.type "BaseException") = some true)
    (md_ElseputError : PySem.W.hasDictIn K a_ElseputError = true)
    (mt_ElseputError : PySem.W.typeIn K (.ref a_ElseputError) = some (.type "type"))
    (ms_BadText_ElseputError : PySem.W.subIn K (.ref a_BadText) (.ref a_ElseputError) = some true)
    (ms_TooLarge_ElseputError : PySem.W.subIn K (.ref a_TooLarge) (.ref a_ElseputError) = some true)
    (kit_BadText_BadText : PySem.W.kitOne K (.ref a_BadText) (.ref a_BadText) = some true)
    (kit_BadText_ValueError : PySem.W.kitOne K (.ref a_BadText) (.type "ValueError") = some true)
    (kit_BadText_TooLarge : PySem.W.kitOne K (.ref a_BadText) (.ref a_TooLarge) = some false)
    (kit_TooLarge_BadText : PySem.W.kitOne K (.ref a_TooLarge) (.ref a_BadText) = some false)
    (kit_TooLarge_ValueError : PySem.W.kitOne K (.ref a_TooLarge) (.type "ValueError") = some true)
    (kit_TooLarge_TooLarge : PySem.W.kitOne K (.ref a_TooLarge) (.ref a_TooLarge) = some true)
    : ∃ fd : FuncData, (∀ (s : Shared) (v : Value), BindsTo s fd ⟨[v], []⟩ [("_law_script", v)]) ∧ ∀ base : Heap, K.In base → base.Ns mainGlobals mg → FnOk l.prog w K mg base CX0 12 fa fd ["_law_script"] (spLaw K) := by
  have e := hfa.symm.trans (PySem.W.mg_of X G a_law)
  cases e
  have XK_BadName : ExK K a_BadName f_BadName ["name"] := exk_mk xc_BadName ref_BadName sa_BadName eb_BadName ty_BadName kC_BadName sup_BadName sv_BadName mro_BadName iC_BadName tI_BadName (fun f hf => by simp only [List.mem_cons, List.not_mem_nil, or_false] at hf; subst hf; exact no0_BadName) ga_BadName gg_BadName hd_BadName hcl_BadName hn_BadName ht_BadName hm_BadName
  have XK_BadNumber : ExK K a_BadNumber f_BadNumber ["value"] := exk_mk xc_BadNumber ref_BadNumber sa_BadNumber eb_BadNumber ty_BadNumber kC_BadNumber sup_BadNumber sv_BadNumber mro_BadNumber iC_BadNumber tI_BadNumber (fun f hf => by simp only [List.mem_cons, List.not_mem_nil, or_false] at hf; subst hf; exact no0_BadNumber) ga_BadNumber gg_BadNumber hd_BadNumber hcl_BadNumber hn_BadNumber ht_BadNumber hm_BadNumber
  have XK_BadText : ExK K a_BadText f_BadText ["line", "column"] := exk_mk xc_BadText ref_BadText sa_BadText eb_BadText ty_BadText kC_BadText sup_BadText sv_BadText mro_BadText iC_BadText tI_BadText (fun f hf => by simp only [List.mem_cons, List.not_mem_nil, or_false] at hf; rcases hf with rfl | rfl; exact no0_BadText; exact no1_BadText) ga_BadText gg_BadText hd_BadText hcl_BadText hn_BadText ht_BadText hm_BadText
  have XK_TooLarge : ExK K a_TooLarge f_TooLarge ["most"] := exk_mk xc_TooLarge ref_TooLarge sa_TooLarge eb_TooLarge ty_TooLarge kC_TooLarge sup_TooLarge sv_TooLarge mro_TooLarge iC_TooLarge tI_TooLarge (fun f hf => by simp only [List.mem_cons, List.not_mem_nil, or_false] at hf; subst hf; exact no0_TooLarge) ga_TooLarge gg_TooLarge hd_TooLarge hcl_TooLarge hn_TooLarge ht_TooLarge hm_TooLarge
  have T : Gs K mg t_BOUND t_DIGITS t_LETTERS t_LONGEST_INTEGER t_LONGEST_NAME a_MARKS a_RESERVED a_SIGNS a_BadName a_BadNumber a_BadText a_Change a_ElseputError a_Reader a_TooLarge := { z_ValueError := PySem.W.mg_none_of X G z_ValueError, z_all := PySem.W.mg_none_of X G z_all, z_bool := PySem.W.mg_none_of X G z_bool, z_dict := PySem.W.mg_none_of X G z_dict, z_int := PySem.W.mg_none_of X G z_int, z_isinstance := PySem.W.mg_none_of X G z_isinstance, z_len := PySem.W.mg_none_of X G z_len, z_list := PySem.W.mg_none_of X G z_list, z_property := PySem.W.mg_none_of X G z_property, z_range := PySem.W.mg_none_of X G z_range, z_staticmethod := PySem.W.mg_none_of X G z_staticmethod, z_str := PySem.W.mg_none_of X G z_str, z_super := PySem.W.mg_none_of X G z_super, z_tuple := PySem.W.mg_none_of X G z_tuple, g_BOUND := PySem.W.mg_of X G g_BOUND, g_DIGITS := PySem.W.mg_of X G g_DIGITS, g_LETTERS := PySem.W.mg_of X G g_LETTERS, g_LONGEST_INTEGER := PySem.W.mg_of X G g_LONGEST_INTEGER, g_LONGEST_NAME := PySem.W.mg_of X G g_LONGEST_NAME, g_MARKS := PySem.W.mg_of X G g_MARKS, g_RESERVED := PySem.W.mg_of X G g_RESERVED, g_SIGNS := PySem.W.mg_of X G g_SIGNS, g_BadName := PySem.W.mg_of X G g_BadName, g_BadNumber := PySem.W.mg_of X G g_BadNumber, g_BadText := PySem.W.mg_of X G g_BadText, g_Change := PySem.W.mg_of X G g_Change, g_ElseputError := PySem.W.mg_of X G g_ElseputError, g_Reader := PySem.W.mg_of X G g_Reader, g_TooLarge := PySem.W.mg_of X G g_TooLarge, q_MARKS := fun _ => .inr ⟨_, _, _, l_MARKS, rfl, rfl, (by have e : _ = its_MARKS.size := v_MARKS.length.trans Array.length_toList; rw [← e]; decide), v_MARKS⟩, q_RESERVED := fun _ => .inr ⟨_, _, _, l_RESERVED, rfl, rfl, (by have e : _ = its_RESERVED.size := v_RESERVED.length.trans Array.length_toList; rw [← e]; decide), v_RESERVED⟩, q_SIGNS := fun _ => .inr ⟨_, _, _, l_SIGNS, rfl, rfl, (by have e : _ = its_SIGNS.size := v_SIGNS.length.trans Array.length_toList; rw [← e]; decide), v_SIGNS⟩, n_ElseputError := g_ElseputError, n_BadName := g_BadName, n_BadNumber := g_BadNumber, n_BadText := g_BadText, n_TooLarge := g_TooLarge, n_Reader := g_Reader, n_Change := g_Change, x_BadName := ⟨XK_BadName.no, XK_BadName.xf, XK_BadName.is⟩, x_BadNumber := ⟨XK_BadNumber.no, XK_BadNumber.xf, XK_BadNumber.is⟩, x_BadText := ⟨XK_BadText.no, XK_BadText.xf, XK_BadText.is⟩, x_TooLarge := ⟨XK_TooLarge.no, XK_TooLarge.xf, XK_TooLarge.is⟩, cl_Reader := ⟨pg_Reader, hx_Reader, po_Reader, st_Reader⟩, rd_Reader := ⟨rr_Reader, rg_Reader⟩, na_Reader__at := na_Reader__at, na_Reader__end := na_Reader__end, na_Reader__number := na_Reader__number, na_Reader__parts := na_Reader__parts, cl_Change := ⟨pg_Change, hx_Change, po_Change, st_Change⟩, rd_Change := ⟨rr_Change, rg_Change⟩, na_Change_assignments := na_Change_assignments, cv_Change_MOST := ⟨_, cv_Change_MOST, ⟨_, rfl⟩⟩, m_BadText_ElseputError := PySem.W.exm_ref mb_ElseputError md_ElseputError mt_ElseputError ms_BadText_ElseputError, m_TooLarge_ElseputError := PySem.W.exm_ref mb_ElseputError md_ElseputError mt_ElseputError ms_TooLarge_ElseputError, k_BadText_BadText := kit_BadText_BadText, k_BadText_ValueError := kit_BadText_ValueError, k_BadText_TooLarge := kit_BadText_TooLarge, k_TooLarge_BadText := kit_TooLarge_BadText, k_TooLarge_ValueError := kit_TooLarge_ValueError, k_TooLarge_TooLarge := kit_TooLarge_TooLarge }
  have F_is_name := fun_mk (st := s_is_name) l_is_name c_is_name k_is_name
  have b_is_name := F_is_name.binds (ps := ["text"]) fun _ _ _ _ _ _ us hl => match us, hl with | [_], _ => rfl
  have F_run_end := fun_mk (st := s_run_end) l_run_end c_run_end k_run_end
  have b_run_end := F_run_end.binds (ps := ["line", "at", "characters"]) fun _ _ _ _ _ _ us hl => match us, hl with | [_, _, _], _ => rfl
  have F_token_end := fun_mk (st := s_token_end) l_token_end c_token_end k_token_end
  have b_token_end := F_token_end.binds (ps := ["line", "at"]) fun _ _ _ _ _ _ us hl => match us, hl with | [_, _], _ => rfl
  have F_split_line := fun_mk (st := s_split_line) l_split_line c_split_line k_split_line
  have b_split_line := F_split_line.binds (ps := ["line", "number"]) fun _ _ _ _ _ _ us hl => match us, hl with | [_, _], _ => rfl
  have F_in_bound := fun_mk (st := s_in_bound) l_in_bound c_in_bound k_in_bound
  have b_in_bound := F_in_bound.binds (ps := ["value"]) fun _ _ _ _ _ _ us hl => match us, hl with | [_], _ => rfl
  have F_check_name := fun_mk (st := s_check_name) l_check_name c_check_name k_check_name
  have b_check_name := F_check_name.binds (ps := ["text"]) fun _ _ _ _ _ _ us hl => match us, hl with | [_], _ => rfl
  have F_check_number := fun_mk (st := s_check_number) l_check_number c_check_number k_check_number
  have b_check_number := F_check_number.binds (ps := ["value"]) fun _ _ _ _ _ _ us hl => match us, hl with | [_], _ => rfl
  have F_is_integer := fun_mk (st := s_is_integer) l_is_integer c_is_integer k_is_integer
  have b_is_integer := F_is_integer.binds (ps := ["token"]) fun _ _ _ _ _ _ us hl => match us, hl with | [_], _ => rfl
  have F_followed := fun_mk (st := s_followed) l_followed c_followed k_followed
  have b_followed := F_followed.binds (ps := ["assignment", "later"]) fun _ _ _ _ _ _ us hl => match us, hl with | [_, _], _ => rfl
  have F_Reader_at_end := fun_mk (st := s_Reader_at_end) l_Reader_at_end c_Reader_at_end k_Reader_at_end
  have b_Reader_at_end := F_Reader_at_end.binds (ps := ["self"]) fun _ _ _ _ _ _ us hl => match us, hl with | [_], _ => rfl
  have F_Reader_ahead := fun_mk (st := s_Reader_ahead) l_Reader_ahead c_Reader_ahead k_Reader_ahead
  have b_Reader_ahead := F_Reader_ahead.binds (ps := ["self"]) fun _ _ _ _ _ _ us hl => match us, hl with | [_], _ => rfl
  have F_Reader__refuse := fun_mk (st := s_Reader__refuse) l_Reader__refuse c_Reader__refuse k_Reader__refuse
  have b_Reader__refuse := F_Reader__refuse.binds (ps := ["self"]) fun _ _ _ _ _ _ us hl => match us, hl with | [_], _ => rfl
  have F_Reader__take_if := fun_mk (st := s_Reader__take_if) l_Reader__take_if c_Reader__take_if k_Reader__take_if
  have b_Reader__take_if := F_Reader__take_if.binds (ps := ["self", "fits"]) fun _ _ _ _ _ _ us hl => match us, hl with | [_, _], _ => rfl
  have F_Reader_take_one := fun_mk (st := s_Reader_take_one) l_Reader_take_one c_Reader_take_one k_Reader_take_one
  have b_Reader_take_one := F_Reader_take_one.binds (ps := ["self", "words"]) fun _ _ _ _ _ _ us hl => match us, hl with | [_, _], _ => rfl
  have F_Reader_take_name := fun_mk (st := s_Reader_take_name) l_Reader_take_name c_Reader_take_name k_Reader_take_name
  have b_Reader_take_name := F_Reader_take_name.binds (ps := ["self"]) fun _ _ _ _ _ _ us hl => match us, hl with | [_], _ => rfl
  have F_Reader_take_integer := fun_mk (st := s_Reader_take_integer) l_Reader_take_integer c_Reader_take_integer k_Reader_take_integer
  have b_Reader_take_integer := F_Reader_take_integer.binds (ps := ["self"]) fun _ _ _ _ _ _ us hl => match us, hl with | [_], _ => rfl
  have F_parse_assignment := fun_mk (st := s_parse_assignment) l_parse_assignment c_parse_assignment k_parse_assignment
  have b_parse_assignment := F_parse_assignment.binds (ps := ["reader"]) fun _ _ _ _ _ _ us hl => match us, hl with | [_], _ => rfl
  have F_Reader_skip := fun_mk (st := s_Reader_skip) l_Reader_skip c_Reader_skip k_Reader_skip
  have b_Reader_skip := F_Reader_skip.binds (ps := ["self", "token"]) fun _ _ _ _ _ _ us hl => match us, hl with | [_, _], _ => rfl
  have F_parse_assignments := fun_mk (st := s_parse_assignments) l_parse_assignments c_parse_assignments k_parse_assignments
  have b_parse_assignments := F_parse_assignments.binds (ps := ["reader"]) fun _ _ _ _ _ _ us hl => match us, hl with | [_], _ => rfl
  have F_Change___init__ := fun_mk (st := s_Change___init__) l_Change___init__ c_Change___init__ k_Change___init__
  have b_Change___init__ := F_Change___init__.binds (ps := ["self", "assignments"]) fun _ _ _ _ _ _ us hl => match us, hl with | [_, _], _ => rfl
  have F_Change_none := fun_mk (st := s_Change_none) l_Change_none c_Change_none k_Change_none
  have b_Change_none := F_Change_none.binds (ps := []) fun _ _ _ _ _ _ us hl => match us, hl with | [], _ => rfl
  have F_Change_adding := fun_mk (st := s_Change_adding) l_Change_adding c_Change_adding k_Change_adding
  have b_Change_adding := F_Change_adding.binds (ps := ["field", "number"]) fun _ _ _ _ _ _ us hl => match us, hl with | [_, _], _ => rfl
  have F_Change_setting := fun_mk (st := s_Change_setting) l_Change_setting c_Change_setting k_Change_setting
  have b_Change_setting := F_Change_setting.binds (ps := ["field", "number"]) fun _ _ _ _ _ _ us hl => match us, hl with | [_, _], _ => rfl
  have F_Change_assigned := fun_mk (st := s_Change_assigned) l_Change_assigned c_Change_assigned k_Change_assigned
  have b_Change_assigned := F_Change_assigned.binds (ps := ["self"]) fun _ _ _ _ _ _ us hl => match us, hl with | [_], _ => rfl
  have F_Change___rshift__ := fun_mk (st := s_Change___rshift__) l_Change___rshift__ c_Change___rshift__ k_Change___rshift__
  have b_Change___rshift__ := F_Change___rshift__.binds (ps := ["self", "other"]) fun _ _ _ _ _ _ us hl => match us, hl with | [_, _], _ => rfl
  have F_build_change := fun_mk (st := s_build_change) l_build_change c_build_change k_build_change
  have b_build_change := F_build_change.binds (ps := ["parsed"]) fun _ _ _ _ _ _ us hl => match us, hl with | [_], _ => rfl
  have F__law_state := fun_mk (st := s__law_state) l__law_state c__law_state k__law_state
  have b__law_state := F__law_state.binds (ps := ["_law_script"]) fun _ _ _ _ _ _ us hl => match us, hl with | [_], _ => rfl
  have F__law_draw := fun_mk (st := s__law_draw) l__law_draw c__law_draw k__law_draw
  have b__law_draw := F__law_draw.binds (ps := ["_law_state_here", "_law_many"]) fun _ _ _ _ _ _ us hl => match us, hl with | [_, _], _ => rfl
  have F__law_pick := fun_mk (st := s__law_pick) l__law_pick c__law_pick k__law_pick
  have b__law_pick := F__law_pick.binds (ps := ["_law_state_here", "_law_row"]) fun _ _ _ _ _ _ us hl => match us, hl with | [_, _], _ => rfl
  have F__law_mixed := fun_mk (st := s__law_mixed) l__law_mixed c__law_mixed k__law_mixed
  have b__law_mixed := F__law_mixed.binds (ps := ["_law_state_here", "_law_row"]) fun _ _ _ _ _ _ us hl => match us, hl with | [_, _], _ => rfl
  have F__law_number := fun_mk (st := s__law_number) l__law_number c__law_number k__law_number
  have b__law_number := F__law_number.binds (ps := ["_law_state_here"]) fun _ _ _ _ _ _ us hl => match us, hl with | [_], _ => rfl
  have F__law_constant := fun_mk (st := s__law_constant) l__law_constant c__law_constant k__law_constant
  have b__law_constant := F__law_constant.binds (ps := ["_law_state_here"]) fun _ _ _ _ _ _ us hl => match us, hl with | [_], _ => rfl
  have F__law_names := fun_mk (st := s__law_names) l__law_names c__law_names k__law_names
  have b__law_names := F__law_names.binds (ps := ["_law_state_here", "_law_many"]) fun _ _ _ _ _ _ us hl => match us, hl with | [_, _], _ => rfl
  have F__law_is_int := fun_mk (st := s__law_is_int) l__law_is_int c__law_is_int k__law_is_int
  have b__law_is_int := F__law_is_int.binds (ps := ["_law_thing"]) fun _ _ _ _ _ _ us hl => match us, hl with | [_], _ => rfl
  have F__law_same := fun_mk (st := s__law_same) l__law_same c__law_same k__law_same
  have b__law_same := F__law_same.binds (ps := ["_law_actual", "_law_due"]) fun _ _ _ _ _ _ us hl => match us, hl with | [_, _], _ => rfl
  have F__law_change := fun_mk (st := s__law_change) l__law_change c__law_change k__law_change
  have b__law_change := F__law_change.binds (ps := ["_law_rows"]) fun _ _ _ _ _ _ us hl => match us, hl with | [_], _ => rfl
  have F__law_rows_text := fun_mk (st := s__law_rows_text) l__law_rows_text c__law_rows_text k__law_rows_text
  have b__law_rows_text := F__law_rows_text.binds (ps := ["_law_rows"]) fun _ _ _ _ _ _ us hl => match us, hl with | [_], _ => rfl
  have F__law_some_rows := fun_mk (st := s__law_some_rows) l__law_some_rows c__law_some_rows k__law_some_rows
  have b__law_some_rows := F__law_some_rows.binds (ps := ["_law_state_here", "_law_fields"]) fun _ _ _ _ _ _ us hl => match us, hl with | [_, _], _ => rfl
  have F__law_chained := fun_mk (st := s__law_chained) l__law_chained c__law_chained k__law_chained
  have b__law_chained := F__law_chained.binds (ps := ["_law_first", "_law_second"]) fun _ _ _ _ _ _ us hl => match us, hl with | [_, _], _ => rfl
  have F__law_touch := fun_mk (st := s__law_touch) l__law_touch c__law_touch k__law_touch
  have b__law_touch := F__law_touch.binds (ps := ["_law_one", "_law_two"]) fun _ _ _ _ _ _ us hl => match us, hl with | [_, _], _ => rfl
  have F__law_laid := fun_mk (st := s__law_laid) l__law_laid c__law_laid k__law_laid
  have b__law_laid := F__law_laid.binds (ps := ["_law_state_here", "_law_pieces"]) fun _ _ _ _ _ _ us hl => match us, hl with | [_, _], _ => rfl
  have F_Reader___init__ := fund_mk (st := s_Reader___init__) (dvs := [(.int 1)]) l_Reader___init__ c_Reader___init__ k_Reader___init__ ld_Reader___init__ v_d_Reader___init__ (by simp)
  have b_Reader___init__ := F_Reader___init__.binds1 (ps := ["self", "line", "number"]) 2 0 (by simp) (by rfl) fun _ _ _ _ _ _ _ us its hu hi => match us, hu, its, hi with | [_, _], _, [_], _ => ⟨_, rfl, rfl⟩
  have F_Reader_take_end := fun_mk (st := s_Reader_take_end) l_Reader_take_end c_Reader_take_end k_Reader_take_end
  have b_Reader_take_end := F_Reader_take_end.binds (ps := ["self"]) fun _ _ _ _ _ _ us hl => match us, hl with | [_], _ => rfl
  have F_Change_read := fun_mk (st := s_Change_read) l_Change_read c_Change_read k_Change_read
  have b_Change_read := F_Change_read.binds (ps := ["line"]) fun _ _ _ _ _ _ us hl => match us, hl with | [_], _ => rfl
  have F__law_read_it := fun_mk (st := s__law_read_it) l__law_read_it c__law_read_it k__law_read_it
  have b__law_read_it := F__law_read_it.binds (ps := ["_law_line"]) fun _ _ _ _ _ _ us hl => match us, hl with | [_], _ => rfl
  have F__law_words := fun_mk (st := s__law_words) l__law_words c__law_words k__law_words
  have b__law_words := F__law_words.binds (ps := ["_law_rows"]) fun _ _ _ _ _ _ us hl => match us, hl with | [_], _ => rfl
  have F__law_folded := fun_mk (st := s__law_folded) l__law_folded c__law_folded k__law_folded
  have b__law_folded := F__law_folded.binds (ps := ["_law_rows"]) fun _ _ _ _ _ _ us hl => match us, hl with | [_], _ => rfl
  have F__law_lets := fun_mk (st := s__law_lets) l__law_lets c__law_lets k__law_lets
  have b__law_lets := F__law_lets.binds (ps := ["_law_state_here", "_law_rows"]) fun _ _ _ _ _ _ us hl => match us, hl with | [_, _], _ => rfl
  have F__law_asks := fun_mk (st := s__law_asks) l__law_asks c__law_asks k__law_asks
  have b__law_asks := F__law_asks.binds (ps := ["_law_state_here", "_law_words_here", "_law_at"]) fun _ _ _ _ _ _ us hl => match us, hl with | [_, _, _], _ => rfl
  have F__law_unfit := fun_mk (st := s__law_unfit) l__law_unfit c__law_unfit k__law_unfit
  have b__law_unfit := F__law_unfit.binds (ps := ["_law_at"]) fun _ _ _ _ _ _ us hl => match us, hl with | [_], _ => rfl
  have F__law_spoils := fun_mk (st := s__law_spoils) l__law_spoils c__law_spoils k__law_spoils
  have b__law_spoils := F__law_spoils.binds (ps := ["_law_state_here", "_law_words_here", "_law_i"]) fun _ _ _ _ _ _ us hl => match us, hl with | [_, _, _], _ => rfl
  have F_Change_text := fun_mk (st := s_Change_text) l_Change_text c_Change_text k_Change_text
  have b_Change_text := F_Change_text.binds (ps := ["self"]) fun _ _ _ _ _ _ us hl => match us, hl with | [_], _ => rfl
  have F_law := fun_mk (st := s_law) l_law c_law k_law
  have b_law := F_law.binds (ps := ["_law_script"]) fun _ _ _ _ _ _ us hl => match us, hl with | [_], _ => rfl
  refine ⟨PySem.W.fnOf "law" "law" (defArgs s_law) (defBody s_law) (defScope s_law) .none kV_law dc_law pm_law an_law cd_law ct_law, fun s v => .of_eq rfl, fun base _ _ => ?_⟩
  have C_BadText : CalE l.prog w K mg base 1 "BadText" a_BadText f_BadText _ ["self", "line", "column"] okx_BadText fs_BadText ["line", "column"] := ⟨ok_BadText XK_BadText lf_BadText cd_BadText lc_BadText v2_BadText fe_BadText lcc_BadText hD_BadText (PySem.W.mg_none_of X G z_super) st_any htop, .all fun us hl => (match us, hl with | [_, _, _], _ => rfl), XK_BadText, PySem.W.mg_of X G g_BadText⟩
  have C_TooLarge : CalE l.prog w K mg base 1 "TooLarge" a_TooLarge f_TooLarge _ ["self", "most"] okx_TooLarge fs_TooLarge ["most"] := ⟨ok_TooLarge XK_TooLarge lf_TooLarge cd_TooLarge lc_TooLarge v2_TooLarge fe_TooLarge lcc_TooLarge hD_TooLarge (PySem.W.mg_none_of X G z_super) st_any htop, .all fun us hl => (match us, hl with | [_, _], _ => rfl), XK_TooLarge, PySem.W.mg_of X G g_TooLarge⟩
  have C_is_name : Cal l.prog w K mg base CX0 1 "is_name" f_is_name _ ["text"] (sp_is_name K) := ⟨ok_is_name F_is_name T, b_is_name, k_is_name, PySem.W.mg_of X G a_is_name⟩
  have C_run_end : Cal l.prog w K mg base CX0 1 "run_end" f_run_end _ ["line", "at", "characters"] (sp_run_end K) := ⟨ok_run_end F_run_end T, b_run_end, k_run_end, PySem.W.mg_of X G a_run_end⟩
  have C_token_end : Cal l.prog w K mg base CX0 2 "token_end" f_token_end _ ["line", "at"] (sp_token_end K) := ⟨ok_token_end F_token_end T C_run_end, b_token_end, k_token_end, PySem.W.mg_of X G a_token_end⟩
  have C_split_line : Cal l.prog w K mg base (L2.CX l.prog w) 3 "split_line" f_split_line _ ["line", "number"] (sp_split_line K) := ⟨ok_split_line F_split_line T C_token_end C_BadText, b_split_line, k_split_line, PySem.W.mg_of X G a_split_line⟩
  have C_in_bound : Cal l.prog w K mg base CX0 1 "in_bound" f_in_bound _ ["value"] (sp_in_bound K) := ⟨ok_in_bound F_in_bound T, b_in_bound, k_in_bound, PySem.W.mg_of X G a_in_bound⟩
  have C_check_name : Cal l.prog w K mg base CX0 3 "check_name" f_check_name _ ["text"] (sp_check_name K) := ⟨ok_check_name F_check_name T C_is_name, b_check_name, k_check_name, PySem.W.mg_of X G a_check_name⟩
  have C_check_number : Cal l.prog w K mg base CX0 3 "check_number" f_check_number _ ["value"] (sp_check_number K) := ⟨ok_check_number F_check_number T C_in_bound, b_check_number, k_check_number, PySem.W.mg_of X G a_check_number⟩
  have C_is_integer : Cal l.prog w K mg base CX0 2 "is_integer" f_is_integer _ ["token"] (sp_is_integer K) := ⟨ok_is_integer F_is_integer T C_in_bound, b_is_integer, k_is_integer, PySem.W.mg_of X G a_is_integer⟩
  have C_followed : Cal l.prog w K mg base CX0 1 "followed" f_followed _ ["assignment", "later"] (sp_followed K) := ⟨ok_followed F_followed T, b_followed, k_followed, PySem.W.mg_of X G a_followed⟩
  have C_Reader_at_end : CalM l.prog w K mg base CX0 1 a_Reader "at_end" f_Reader_at_end _ ["self"] (sp_Reader_at_end K) := ⟨⟨ok_Reader_at_end F_Reader_at_end T, b_Reader_at_end⟩, ⟨pg_Reader, hx_Reader, po_Reader, st_Reader⟩, ⟨fa_Reader_at_end, fn_Reader_at_end, k_Reader_at_end⟩⟩
  have C_Reader_ahead : CalM l.prog w K mg base CX0 2 a_Reader "ahead" f_Reader_ahead _ ["self"] (sp_Reader_ahead K) := ⟨⟨ok_Reader_ahead F_Reader_ahead T C_Reader_at_end, b_Reader_ahead⟩, ⟨pg_Reader, hx_Reader, po_Reader, st_Reader⟩, ⟨fa_Reader_ahead, fn_Reader_ahead, k_Reader_ahead⟩⟩
  have C_Reader__refuse : CalM l.prog w K mg base (L2.CX l.prog w) 3 a_Reader "_refuse" f_Reader__refuse _ ["self"] (sp_Reader__refuse K) := ⟨⟨ok_Reader__refuse F_Reader__refuse T C_Reader_at_end C_BadText, b_Reader__refuse⟩, ⟨pg_Reader, hx_Reader, po_Reader, st_Reader⟩, ⟨fa_Reader__refuse, fn_Reader__refuse, k_Reader__refuse⟩⟩
  have C_Reader__take_if : CalM l.prog w K mg base (L2.CX l.prog w) 4 a_Reader "_take_if" f_Reader__take_if _ ["self", "fits"] (sp_Reader__take_if K) := ⟨⟨ok_Reader__take_if F_Reader__take_if T C_Reader_ahead C_Reader__refuse, b_Reader__take_if⟩, ⟨pg_Reader, hx_Reader, po_Reader, st_Reader⟩, ⟨fa_Reader__take_if, fn_Reader__take_if, k_Reader__take_if⟩⟩
  have C_Reader_take_one : CalM l.prog w K mg base (L2.CX l.prog w) 5 a_Reader "take_one" f_Reader_take_one _ ["self", "words"] (sp_Reader_take_one K) := ⟨⟨ok_Reader_take_one F_Reader_take_one T C_Reader__take_if C_Reader_ahead, b_Reader_take_one⟩, ⟨pg_Reader, hx_Reader, po_Reader, st_Reader⟩, ⟨fa_Reader_take_one, fn_Reader_take_one, k_Reader_take_one⟩⟩
  have C_Reader_take_name : CalM l.prog w K mg base (L2.CX l.prog w) 5 a_Reader "take_name" f_Reader_take_name _ ["self"] (sp_Reader_take_name K) := ⟨⟨ok_Reader_take_name F_Reader_take_name T C_is_name C_Reader__take_if C_Reader_ahead, b_Reader_take_name⟩, ⟨pg_Reader, hx_Reader, po_Reader, st_Reader⟩, ⟨fa_Reader_take_name, fn_Reader_take_name, k_Reader_take_name⟩⟩
  have C_Reader_take_integer : CalM l.prog w K mg base (L2.CX l.prog w) 5 a_Reader "take_integer" f_Reader_take_integer _ ["self"] (sp_Reader_take_integer K) := ⟨⟨ok_Reader_take_integer F_Reader_take_integer T C_is_integer C_Reader__take_if C_Reader_ahead, b_Reader_take_integer⟩, ⟨pg_Reader, hx_Reader, po_Reader, st_Reader⟩, ⟨fa_Reader_take_integer, fn_Reader_take_integer, k_Reader_take_integer⟩⟩
  have C_parse_assignment : Cal l.prog w K mg base (L2.CX l.prog w) 6 "parse_assignment" f_parse_assignment _ ["reader"] (sp_parse_assignment K) := ⟨ok_parse_assignment F_parse_assignment T C_Reader_take_one C_Reader_take_name C_Reader_take_integer, b_parse_assignment, k_parse_assignment, PySem.W.mg_of X G a_parse_assignment⟩
  have C_Reader_skip : CalM l.prog w K mg base CX0 3 a_Reader "skip" f_Reader_skip _ ["self", "token"] (sp_Reader_skip K) := ⟨⟨ok_Reader_skip F_Reader_skip T C_Reader_ahead, b_Reader_skip⟩, ⟨pg_Reader, hx_Reader, po_Reader, st_Reader⟩, ⟨fa_Reader_skip, fn_Reader_skip, k_Reader_skip⟩⟩
  have C_parse_assignments : Cal l.prog w K mg base (L2.CX l.prog w) 7 "parse_assignments" f_parse_assignments _ ["reader"] (sp_parse_assignments K) := ⟨ok_parse_assignments F_parse_assignments T C_parse_assignment C_Reader_skip, b_parse_assignments, k_parse_assignments, PySem.W.mg_of X G a_parse_assignments⟩
  have C_Change___init__ : CalI l.prog w K mg base CX0 1 "Change" a_Change f_Change___init__ _ ["self", "assignments"] (sp_Change___init__ K) := ⟨⟨ok_Change___init__ F_Change___init__ T, b_Change___init__⟩, ⟨mi_Change, fa_Change___init__, fn_Change___init__, ko_Change⟩, PySem.W.mg_of X G g_Change⟩
  have C_Change_none : CalS l.prog w K mg base CX0 3 a_Change p_Change_none "none" f_Change_none _ [] (sp_Change_none K) := ⟨⟨ok_Change_none F_Change_none T C_Change___init__, b_Change_none⟩, ⟨rr_Change, rg_Change⟩, ⟨sg_Change_none, ⟨_, sr_Change_none⟩, k_Change_none⟩⟩
  have C_Change_adding : CalS l.prog w K mg base CX0 4 a_Change p_Change_adding "adding" f_Change_adding _ ["field", "number"] (sp_Change_adding K) := ⟨⟨ok_Change_adding F_Change_adding T C_check_name C_check_number C_Change___init__, b_Change_adding⟩, ⟨rr_Change, rg_Change⟩, ⟨sg_Change_adding, ⟨_, sr_Change_adding⟩, k_Change_adding⟩⟩
  have C_Change_setting : CalS l.prog w K mg base CX0 4 a_Change p_Change_setting "setting" f_Change_setting _ ["field", "number"] (sp_Change_setting K) := ⟨⟨ok_Change_setting F_Change_setting T C_check_name C_check_number C_Change___init__, b_Change_setting⟩, ⟨rr_Change, rg_Change⟩, ⟨sg_Change_setting, ⟨_, sr_Change_setting⟩, k_Change_setting⟩⟩
  have C_Change_assigned : CalP l.prog w K mg base CX0 1 a_Change p_Change_assigned "assigned" f_Change_assigned _ ["self"] (sp_Change_assigned K) := ⟨⟨ok_Change_assigned F_Change_assigned T, b_Change_assigned⟩, ⟨pg_Change, hx_Change, po_Change, st_Change⟩, ⟨pa_Change_assigned, ps_Change_assigned, pt_Change_assigned, ⟨_, pr_Change_assigned⟩⟩⟩
  have C_Change___rshift__ : CalO l.prog w K mg base (L2.CX l.prog w) 3 a_Change .RShift f_Change___rshift__ _ ["self", "other"] (sp_Change___rshift__ K) := ⟨⟨ok_Change___rshift__ F_Change___rshift__ T C_followed C_Change___init__ C_Change_assigned C_TooLarge, b_Change___rshift__⟩, ⟨sf_Change, fa_Change___rshift__, fn_Change___rshift__⟩⟩
  have C_build_change : Cal l.prog w K mg base (L2.CX l.prog w) 5 "build_change" f_build_change _ ["parsed"] (sp_build_change K) := ⟨ok_build_change F_build_change T C_Change_none C_Change_adding C_Change_setting C_Change___rshift__, b_build_change, k_build_change, PySem.W.mg_of X G a_build_change⟩
  have C__law_state : Cal l.prog w K mg base CX0 1 "_law_state" f__law_state _ ["_law_script"] (sp__law_state K) := ⟨ok__law_state F__law_state T, b__law_state, k__law_state, PySem.W.mg_of X G a__law_state⟩
  have C__law_draw : Cal l.prog w K mg base CX0 1 "_law_draw" f__law_draw _ ["_law_state_here", "_law_many"] (sp__law_draw K) := ⟨ok__law_draw F__law_draw T, b__law_draw, k__law_draw, PySem.W.mg_of X G a__law_draw⟩
  have C__law_pick : Cal l.prog w K mg base CX0 2 "_law_pick" f__law_pick _ ["_law_state_here", "_law_row"] (sp__law_pick K) := ⟨ok__law_pick F__law_pick T C__law_draw, b__law_pick, k__law_pick, PySem.W.mg_of X G a__law_pick⟩
  have C__law_mixed : Cal l.prog w K mg base CX0 2 "_law_mixed" f__law_mixed _ ["_law_state_here", "_law_row"] (sp__law_mixed K) := ⟨ok__law_mixed F__law_mixed T C__law_draw, b__law_mixed, k__law_mixed, PySem.W.mg_of X G a__law_mixed⟩
  have C__law_number : Cal l.prog w K mg base CX0 2 "_law_number" f__law_number _ ["_law_state_here"] (sp__law_number K) := ⟨ok__law_number F__law_number T C__law_draw, b__law_number, k__law_number, PySem.W.mg_of X G a__law_number⟩
  have C__law_constant : Cal l.prog w K mg base CX0 3 "_law_constant" f__law_constant _ ["_law_state_here"] (sp__law_constant K) := ⟨ok__law_constant F__law_constant T C__law_number C__law_draw, b__law_constant, k__law_constant, PySem.W.mg_of X G a__law_constant⟩
  have C__law_names : Cal l.prog w K mg base CX0 2 "_law_names" f__law_names _ ["_law_state_here", "_law_many"] (sp__law_names K) := ⟨ok__law_names F__law_names T C__law_draw, b__law_names, k__law_names, PySem.W.mg_of X G a__law_names⟩
  have C__law_is_int : Cal l.prog w K mg base CX0 1 "_law_is_int" f__law_is_int _ ["_law_thing"] (sp__law_is_int K) := ⟨ok__law_is_int F__law_is_int T, b__law_is_int, k__law_is_int, PySem.W.mg_of X G a__law_is_int⟩
  have C__law_same : Cal l.prog w K mg base CX0 6 "_law_same" f__law_same _ ["_law_actual", "_law_due"] (sp__law_same K) := ⟨ok__law_same F__law_same T C__law_is_int b__law_same k__law_same (PySem.W.mg_of X G a__law_same), b__law_same, k__law_same, PySem.W.mg_of X G a__law_same⟩
  have C__law_change : Cal l.prog w K mg base CX0 5 "_law_change" f__law_change _ ["_law_rows"] (sp__law_change K) := ⟨ok__law_change F__law_change T C_Change_none C_Change_adding C_Change_setting C_Change___rshift__, b__law_change, k__law_change, PySem.W.mg_of X G a__law_change⟩
  have C__law_rows_text : Cal l.prog w K mg base CX0 1 "_law_rows_text" f__law_rows_text _ ["_law_rows"] (sp__law_rows_text K) := ⟨ok__law_rows_text F__law_rows_text T, b__law_rows_text, k__law_rows_text, PySem.W.mg_of X G a__law_rows_text⟩
  have C__law_some_rows : Cal l.prog w K mg base CX0 4 "_law_some_rows" f__law_some_rows _ ["_law_state_here", "_law_fields"] (sp__law_some_rows K) := ⟨ok__law_some_rows F__law_some_rows T C__law_mixed C__law_draw C__law_pick C__law_constant, b__law_some_rows, k__law_some_rows, PySem.W.mg_of X G a__law_some_rows⟩
  have C__law_chained : Cal l.prog w K mg base CX0 1 "_law_chained" f__law_chained _ ["_law_first", "_law_second"] (sp__law_chained K) := ⟨ok__law_chained F__law_chained T, b__law_chained, k__law_chained, PySem.W.mg_of X G a__law_chained⟩
  have C__law_touch : Cal l.prog w K mg base CX0 1 "_law_touch" f__law_touch _ ["_law_one", "_law_two"] (sp__law_touch K) := ⟨ok__law_touch F__law_touch T, b__law_touch, k__law_touch, PySem.W.mg_of X G a__law_touch⟩
  have C__law_laid : Cal l.prog w K mg base CX0 2 "_law_laid" f__law_laid _ ["_law_state_here", "_law_pieces"] (sp__law_laid K) := ⟨ok__law_laid F__law_laid T C__law_draw C__law_touch, b__law_laid, k__law_laid, PySem.W.mg_of X G a__law_laid⟩
  have C_Reader___init__ : CalID l.prog w K mg base (L2.CX l.prog w) 4 "Reader" a_Reader f_Reader___init__ _ ["self", "line", "number"] [(.int 1)] (sp_Reader___init__ K) := ⟨ok_Reader___init__ F_Reader___init__ T C_split_line, b_Reader___init__, ⟨mi_Reader, fa_Reader___init__, fn_Reader___init__, ko_Reader⟩, PySem.W.mg_of X G g_Reader⟩
  have C_Reader_take_end : CalM l.prog w K mg base (L2.CX l.prog w) 4 a_Reader "take_end" f_Reader_take_end _ ["self"] (sp_Reader_take_end K) := ⟨⟨ok_Reader_take_end F_Reader_take_end T C_Reader_at_end C_Reader__refuse, b_Reader_take_end⟩, ⟨pg_Reader, hx_Reader, po_Reader, st_Reader⟩, ⟨fa_Reader_take_end, fn_Reader_take_end, k_Reader_take_end⟩⟩
  have C_Change_read : CalS l.prog w K mg base (L2.CX l.prog w) 8 a_Change p_Change_read "read" f_Change_read _ ["line"] (sp_Change_read K) := ⟨⟨ok_Change_read F_Change_read T C_build_change C_parse_assignments C_Reader___init__ C_Reader_take_end C_Reader_at_end, b_Change_read⟩, ⟨rr_Change, rg_Change⟩, ⟨sg_Change_read, ⟨_, sr_Change_read⟩, k_Change_read⟩⟩
  have C__law_read_it : Cal l.prog w K mg base CX0 9 "_law_read_it" f__law_read_it _ ["_law_line"] (sp__law_read_it K) := ⟨ok__law_read_it F__law_read_it T C_Change_read, b__law_read_it, k__law_read_it, PySem.W.mg_of X G a__law_read_it⟩
  have C__law_words : Cal l.prog w K mg base CX0 1 "_law_words" f__law_words _ ["_law_rows"] (sp__law_words K) := ⟨ok__law_words F__law_words T, b__law_words, k__law_words, PySem.W.mg_of X G a__law_words⟩
  have C__law_folded : Cal l.prog w K mg base CX0 2 "_law_folded" f__law_folded _ ["_law_rows"] (sp__law_folded K) := ⟨ok__law_folded F__law_folded T C__law_chained, b__law_folded, k__law_folded, PySem.W.mg_of X G a__law_folded⟩
  have C__law_lets : Cal l.prog w K mg base CX0 10 "_law_lets" f__law_lets _ ["_law_state_here", "_law_rows"] (sp__law_lets K) := ⟨ok__law_lets F__law_lets T C__law_laid C__law_same C__law_words C__law_read_it C__law_folded, b__law_lets, k__law_lets, PySem.W.mg_of X G a__law_lets⟩
  have C__law_asks : Cal l.prog w K mg base CX0 10 "_law_asks" f__law_asks _ ["_law_state_here", "_law_words_here", "_law_at"] (sp__law_asks K) := ⟨ok__law_asks F__law_asks T C__law_laid C__law_same C__law_read_it, b__law_asks, k__law_asks, PySem.W.mg_of X G a__law_asks⟩
  have C__law_unfit : Cal l.prog w K mg base CX0 1 "_law_unfit" f__law_unfit _ ["_law_at"] (sp__law_unfit K) := ⟨ok__law_unfit F__law_unfit T, b__law_unfit, k__law_unfit, PySem.W.mg_of X G a__law_unfit⟩
  have C__law_spoils : Cal l.prog w K mg base CX0 11 "_law_spoils" f__law_spoils _ ["_law_state_here", "_law_words_here", "_law_i"] (sp__law_spoils K) := ⟨ok__law_spoils F__law_spoils T C__law_draw C__law_asks C__law_pick C__law_unfit, b__law_spoils, k__law_spoils, PySem.W.mg_of X G a__law_spoils⟩
  have C_Change_text : CalM l.prog w K mg base CX0 1 a_Change "text" f_Change_text _ ["self"] (sp_Change_text K) := ⟨⟨ok_Change_text F_Change_text T, b_Change_text⟩, ⟨pg_Change, hx_Change, po_Change, st_Change⟩, ⟨fa_Change_text, fn_Change_text, k_Change_text⟩⟩
  exact ok_law F_law T C__law_state C__law_names C__law_some_rows C__law_change C__law_rows_text C__law_spoils C__law_words C__law_asks C__law_draw C__law_same C__law_lets C__law_read_it C__law_pick C__law_constant C_Change_text
theorem walk {l : PySem.W.OpenLaw} {q : Program} {loose : List Str} {XP : (Str → Option Value) → Heap → Prop} {YP : World → Heap → Prop} {d : DefRec} {K : Params → PySem.W.Frag} (hn : l.most = some 63) (hdf : d.params.defaults = [])
    (hY : ∀ (w : World) (h : Heap), YP w h → (K w.params).In h)
    (F : ∀ (w : World) (mg : Str → Option Value) (fa : Addr) (h : Heap), (K w.params).In h → h.Ns mainGlobals mg → mg d.name = some (.ref fa) →
      ∃ fd : FuncData, (∀ (s : Shared) (u : Value), BindsTo s fd ⟨[u], []⟩ [("_law_script", u)]) ∧ ∀ base : Heap, (K w.params).In base → base.Ns mainGlobals mg → FnOk l.prog w (K w.params) mg base CX0 12 fa fd ["_law_script"] (spLaw (K w.params))) :
    PySem.W.WalkO q loose XP YP l.row.toRowW d [] (fun f vs => PySem.call f vs) :=
  L2.walk_of (n := 63) (k := 12) (x := "_law_script") (CX := fun _ => CX0) (sp := fun w => spLaw (K w.params)) hn (by decide) hdf ⟨rfl, by decide, by decide⟩ hY F (fun _ _ a ns hl _ hS => ⟨a, ns, rfl, hS, hl, fun _ => rfl⟩) fun _ _ _ _ _ z => z
end K14
open PySem PySem.W PyProof.Rows
set_option maxRecDepth 100000 in
set_option maxHeartbeats 0 in
theorem PySem.Challenge.cw_elseput_k14_change_text_and_read_holds : PySem.Challenge.rw_elseput_k14_change_text_and_read.Holds := by
  w_on; o_law; k_head; (case hw => w_witness2)
  k_fill
  refine K14.walk (l := PySem.Challenge.rw_elseput_k14_change_text_and_read) rfl rfl (fun w h Y => PySem.W.kIn_of Y) ?F
  case F =>
    intro w mg fa h KX G hmg
    refine' K14.all_mk KX G hmg ?g_Reader ?pg_Reader ?hx_Reader ?po_Reader ?st_Reader ?rr_Reader ?rg_Reader ?mi_Reader ?ko_Reader ?sf_Reader ?na_Reader__at ?na_Reader__end ?na_Reader__number ?na_Reader__parts ?g_Change ?pg_Change ?hx_Change ?po_Change ?st_Change ?rr_Change ?rg_Change ?mi_Change ?ko_Change ?sf_Change ?na_Change_assignments ?cv_Change_MOST ?a_is_name ?l_is_name ?c_is_name ?k_is_name ?a_run_end ?l_run_end ?c_run_end ?k_run_end ?a_token_end ?l_token_end ?c_token_end ?k_token_end ?a_split_line ?l_split_line ?c_split_line ?k_split_line ?a_in_bound ?l_in_bound ?c_in_bound ?k_in_bound ?a_check_name ?l_check_name ?c_check_name ?k_check_name ?a_check_number ?l_check_number ?c_check_number ?k_check_number ?a_is_integer ?l_is_integer ?c_is_integer ?k_is_integer ?a_followed ?l_followed ?c_followed ?k_followed ?fa_Reader_at_end ?fn_Reader_at_end ?l_Reader_at_end ?c_Reader_at_end ?k_Reader_at_end ?fa_Reader_ahead ?fn_Reader_ahead ?l_Reader_ahead ?c_Reader_ahead ?k_Reader_ahead ?fa_Reader__refuse ?fn_Reader__refuse ?l_Reader__refuse ?c_Reader__refuse ?k_Reader__refuse ?fa_Reader__take_if ?fn_Reader__take_if ?l_Reader__take_if ?c_Reader__take_if ?k_Reader__take_if ?fa_Reader_take_one ?fn_Reader_take_one ?l_Reader_take_one ?c_Reader_take_one ?k_Reader_take_one ?fa_Reader_take_name ?fn_Reader_take_name ?l_Reader_take_name ?c_Reader_take_name ?k_Reader_take_name ?fa_Reader_take_integer ?fn_Reader_take_integer ?l_Reader_take_integer ?c_Reader_take_integer ?k_Reader_take_integer ?a_parse_assignment ?l_parse_assignment ?c_parse_assignment ?k_parse_assignment ?fa_Reader_skip ?fn_Reader_skip ?l_Reader_skip ?c_Reader_skip ?k_Reader_skip ?a_parse_assignments ?l_parse_assignments ?c_parse_assignments ?k_parse_assignments ?fa_Change___init__ ?fn_Change___init__ ?l_Change___init__ ?c_Change___init__ ?k_Change___init__ ?sg_Change_none ?sr_Change_none ?l_Change_none ?c_Change_none ?k_Change_none ?sg_Change_adding ?sr_Change_adding ?l_Change_adding ?c_Change_adding ?k_Change_adding ?sg_Change_setting ?sr_Change_setting ?l_Change_setting ?c_Change_setting ?k_Change_setting ?pa_Change_assigned ?ps_Change_assigned ?pt_Change_assigned ?pr_Change_assigned ?l_Change_assigned ?c_Change_assigned ?k_Change_assigned ?fa_Change___rshift__ ?fn_Change___rshift__ ?l_Change___rshift__ ?c_Change___rshift__ ?k_Change___rshift__ ?a_build_change ?l_build_change ?c_build_change ?k_build_change ?a__law_state ?l__law_state ?c__law_state ?k__law_state ?a__law_draw ?l__law_draw ?c__law_draw ?k__law_draw ?a__law_pick ?l__law_pick ?c__law_pick ?k__law_pick ?a__law_mixed ?l__law_mixed ?c__law_mixed ?k__law_mixed ?a__law_number ?l__law_number ?c__law_number ?k__law_number ?a__law_constant ?l__law_constant ?c__law_constant ?k__law_constant ?a__law_names ?l__law_names ?c__law_names ?k__law_names ?a__law_is_int ?l__law_is_int ?c__law_is_int ?k__law_is_int ?a__law_same ?l__law_same ?c__law_same ?k__law_same ?a__law_change ?l__law_change ?c__law_change ?k__law_change ?a__law_rows_text ?l__law_rows_text ?c__law_rows_text ?k__law_rows_text ?a__law_some_rows ?l__law_some_rows ?c__law_some_rows ?k__law_some_rows ?a__law_chained ?l__law_chained ?c__law_chained ?k__law_chained ?a__law_touch ?l__law_touch ?c__law_touch ?k__law_touch ?a__law_laid ?l__law_laid ?c__law_laid ?k__law_laid ?fa_Reader___init__ ?fn_Reader___init__ ?l_Reader___init__ ?ld_Reader___init__ ?v_d_Reader___init__ ?c_Reader___init__ ?k_Reader___init__ ?fa_Reader_take_end ?fn_Reader_take_end ?l_Reader_take_end ?c_Reader_take_end ?k_Reader_take_end ?sg_Change_read ?sr_Change_read ?l_Change_read ?c_Change_read ?k_Change_read ?a__law_read_it ?l__law_read_it ?c__law_read_it ?k__law_read_it ?a__law_words ?l__law_words ?c__law_words ?k__law_words ?a__law_folded ?l__law_folded ?c__law_folded ?k__law_folded ?a__law_lets ?l__law_lets ?c__law_lets ?k__law_lets ?a__law_asks ?l__law_asks ?c__law_asks ?k__law_asks ?a__law_unfit ?l__law_unfit ?c__law_unfit ?k__law_unfit ?a__law_spoils ?l__law_spoils ?c__law_spoils ?k__law_spoils ?fa_Change_text ?fn_Change_text ?l_Change_text ?c_Change_text ?k_Change_text ?a_law ?l_law ?c_law ?k_law ?z_ValueError ?z_all ?z_bool ?z_dict ?z_int ?z_isinstance ?z_len ?z_list ?z_property ?z_range ?z_staticmethod ?z_str ?z_super ?z_tuple ?g_BOUND ?g_DIGITS ?g_LETTERS ?g_LONGEST_INTEGER ?g_LONGEST_NAME ?g_MARKS ?l_MARKS ?v_MARKS ?g_RESERVED ?l_RESERVED ?v_RESERVED ?g_SIGNS ?l_SIGNS ?v_SIGNS ?g_BadName ?g_BadNumber ?g_BadText ?g_ElseputError ?g_TooLarge ?st_any ?htop ?xc_BadName ?ref_BadName ?sa_BadName ?eb_BadName ?ty_BadName ?kC_BadName ?iC_BadName ?tI_BadName ?sup_BadName ?sv_BadName ?mro_BadName ?no0_BadName ?ga_BadName ?gg_BadName ?hd_BadName ?hcl_BadName ?hn_BadName ?ht_BadName ?hm_BadName ?lf_BadName ?cd_BadName ?lc_BadName ?v2_BadName ?fe_BadName ?lcc_BadName ?hD_BadName ?xc_BadNumber ?ref_BadNumber ?sa_BadNumber ?eb_BadNumber ?ty_BadNumber ?kC_BadNumber ?iC_BadNumber ?tI_BadNumber ?sup_BadNumber ?sv_BadNumber ?mro_BadNumber ?no0_BadNumber ?ga_BadNumber ?gg_BadNumber ?hd_BadNumber ?hcl_BadNumber ?hn_BadNumber ?ht_BadNumber ?hm_BadNumber ?lf_BadNumber ?cd_BadNumber ?lc_BadNumber ?v2_BadNumber ?fe_BadNumber ?lcc_BadNumber ?hD_BadNumber ?xc_BadText ?ref_BadText ?sa_BadText ?eb_BadText ?ty_BadText ?kC_BadText ?iC_BadText ?tI_BadText ?sup_BadText ?sv_BadText ?mro_BadText ?no0_BadText ?no1_BadText ?ga_BadText ?gg_BadText ?hd_BadText ?hcl_BadText ?hn_BadText ?ht_BadText ?hm_BadText ?lf_BadText ?cd_BadText ?lc_BadText ?v2_BadText ?fe_BadText ?lcc_BadText ?hD_BadText ?xc_TooLarge ?ref_TooLarge ?sa_TooLarge ?eb_TooLarge ?ty_TooLarge ?kC_TooLarge ?iC_TooLarge ?tI_TooLarge ?sup_TooLarge ?sv_TooLarge ?mro_TooLarge ?no0_TooLarge ?ga_TooLarge ?gg_TooLarge ?hd_TooLarge ?hcl_TooLarge ?hn_TooLarge ?ht_TooLarge ?hm_TooLarge ?lf_TooLarge ?cd_TooLarge ?lc_TooLarge ?v2_TooLarge ?fe_TooLarge ?lcc_TooLarge ?hD_TooLarge ?mb_ElseputError ?md_ElseputError ?mt_ElseputError ?ms_BadText_ElseputError ?ms_TooLarge_ElseputError ?kit_BadText_BadText ?kit_BadText_ValueError ?kit_BadText_TooLarge ?kit_TooLarge_BadText ?kit_TooLarge_ValueError ?kit_TooLarge_TooLarge
    (case g_Reader => k_is)
    (case pg_Reader => k_is)
    (case hx_Reader => k_is)
    (case po_Reader => k_is)
    (case st_Reader => k_is)
    (case rr_Reader => k_is)
    (case rg_Reader => k_is)
    (case mi_Reader => k_is)
    (case ko_Reader => k_is)
    (case sf_Reader => k_is)
    (case na_Reader__at => k_is)
    (case na_Reader__end => k_is)
    (case na_Reader__number => k_is)
    (case na_Reader__parts => k_is)
    (case g_Change => k_is)
    (case pg_Change => k_is)
    (case hx_Change => k_is)
    (case po_Change => k_is)
    (case st_Change => k_is)
    (case rr_Change => k_is)
    (case rg_Change => k_is)
    (case mi_Change => k_is)
    (case ko_Change => k_is)
    (case sf_Change => k_is)
    (case na_Change_assignments => k_is)
    (case cv_Change_MOST => k_is)
    (case a_is_name => k_is)
    (case l_is_name => k_is)
    (case c_is_name => k_is)
    (case k_is_name => k_is)
    (case a_run_end => k_is)
    (case l_run_end => k_is)
    (case c_run_end => k_is)
    (case k_run_end => k_is)
    (case a_token_end => k_is)
    (case l_token_end => k_is)
    (case c_token_end => k_is)
    (case k_token_end => k_is)
    (case a_split_line => k_is)
    (case l_split_line => k_is)
    (case c_split_line => k_is)
    (case k_split_line => k_is)
    (case a_in_bound => k_is)
    (case l_in_bound => k_is)
    (case c_in_bound => k_is)
    (case k_in_bound => k_is)
    (case a_check_name => k_is)
    (case l_check_name => k_is)
    (case c_check_name => k_is)
    (case k_check_name => k_is)
    (case a_check_number => k_is)
    (case l_check_number => k_is)
    (case c_check_number => k_is)
    (case k_check_number => k_is)
    (case a_is_integer => k_is)
    (case l_is_integer => k_is)
    (case c_is_integer => k_is)
    (case k_is_integer => k_is)
    (case a_followed => k_is)
    (case l_followed => k_is)
    (case c_followed => k_is)
    (case k_followed => k_is)
    (case fa_Reader_at_end => k_is)
    (case fn_Reader_at_end => k_is)
    (case l_Reader_at_end => k_is)
    (case c_Reader_at_end => k_is)
    (case k_Reader_at_end => k_is)
    (case fa_Reader_ahead => k_is)
    (case fn_Reader_ahead => k_is)
    (case l_Reader_ahead => k_is)
    (case c_Reader_ahead => k_is)
    (case k_Reader_ahead => k_is)
    (case fa_Reader__refuse => k_is)
    (case fn_Reader__refuse => k_is)
    (case l_Reader__refuse => k_is)
    (case c_Reader__refuse => k_is)
    (case k_Reader__refuse => k_is)
    (case fa_Reader__take_if => k_is)
    (case fn_Reader__take_if => k_is)
    (case l_Reader__take_if => k_is)
    (case c_Reader__take_if => k_is)
    (case k_Reader__take_if => k_is)
    (case fa_Reader_take_one => k_is)
    (case fn_Reader_take_one => k_is)
    (case l_Reader_take_one => k_is)
    (case c_Reader_take_one => k_is)
    (case k_Reader_take_one => k_is)
    (case fa_Reader_take_name => k_is)
    (case fn_Reader_take_name => k_is)
    (case l_Reader_take_name => k_is)
    (case c_Reader_take_name => k_is)
    (case k_Reader_take_name => k_is)
    (case fa_Reader_take_integer => k_is)
    (case fn_Reader_take_integer => k_is)
    (case l_Reader_take_integer => k_is)
    (case c_Reader_take_integer => k_is)
    (case k_Reader_take_integer => k_is)
    (case a_parse_assignment => k_is)
    (case l_parse_assignment => k_is)
    (case c_parse_assignment => k_is)
    (case k_parse_assignment => k_is)
    (case fa_Reader_skip => k_is)
    (case fn_Reader_skip => k_is)
    (case l_Reader_skip => k_is)
    (case c_Reader_skip => k_is)
    (case k_Reader_skip => k_is)
    (case a_parse_assignments => k_is)
    (case l_parse_assignments => k_is)
    (case c_parse_assignments => k_is)
    (case k_parse_assignments => k_is)
    (case fa_Change___init__ => k_is)
    (case fn_Change___init__ => k_is)
    (case l_Change___init__ => k_is)
    (case c_Change___init__ => k_is)
    (case k_Change___init__ => k_is)
    (case sg_Change_none => k_is)
    (case sr_Change_none => k_is)
    (case l_Change_none => k_is)
    (case c_Change_none => k_is)
    (case k_Change_none => k_is)
    (case sg_Change_adding => k_is)
    (case sr_Change_adding => k_is)
    (case l_Change_adding => k_is)
    (case c_Change_adding => k_is)
    (case k_Change_adding => k_is)
    (case sg_Change_setting => k_is)
    (case sr_Change_setting => k_is)
    (case l_Change_setting => k_is)
    (case c_Change_setting => k_is)
    (case k_Change_setting => k_is)
    (case pa_Change_assigned => k_is)
    (case ps_Change_assigned => k_is)
    (case pt_Change_assigned => k_is)
    (case pr_Change_assigned => k_is)
    (case l_Change_assigned => k_is)
    (case c_Change_assigned => k_is)
    (case k_Change_assigned => k_is)
    (case fa_Change___rshift__ => k_is)
    (case fn_Change___rshift__ => k_is)
    (case l_Change___rshift__ => k_is)
    (case c_Change___rshift__ => k_is)
    (case k_Change___rshift__ => k_is)
    (case a_build_change => k_is)
    (case l_build_change => k_is)
    (case c_build_change => k_is)
    (case k_build_change => k_is)
    (case a__law_state => k_is)
    (case l__law_state => k_is)
    (case c__law_state => k_is)
    (case k__law_state => k_is)
    (case a__law_draw => k_is)
    (case l__law_draw => k_is)
    (case c__law_draw => k_is)
    (case k__law_draw => k_is)
    (case a__law_pick => k_is)
    (case l__law_pick => k_is)
    (case c__law_pick => k_is)
    (case k__law_pick => k_is)
    (case a__law_mixed => k_is)
    (case l__law_mixed => k_is)
    (case c__law_mixed => k_is)
    (case k__law_mixed => k_is)
    (case a__law_number => k_is)
    (case l__law_number => k_is)
    (case c__law_number => k_is)
    (case k__law_number => k_is)
    (case a__law_constant => k_is)
    (case l__law_constant => k_is)
    (case c__law_constant => k_is)
    (case k__law_constant => k_is)
    (case a__law_names => k_is)
    (case l__law_names => k_is)
    (case c__law_names => k_is)
    (case k__law_names => k_is)
    (case a__law_is_int => k_is)
    (case l__law_is_int => k_is)
    (case c__law_is_int => k_is)
    (case k__law_is_int => k_is)
    (case a__law_same => k_is)
    (case l__law_same => k_is)
    (case c__law_same => k_is)
    (case k__law_same => k_is)
    (case a__law_change => k_is)
    (case l__law_change => k_is)
    (case c__law_change => k_is)
    (case k__law_change => k_is)
    (case a__law_rows_text => k_is)
    (case l__law_rows_text => k_is)
    (case c__law_rows_text => k_is)
    (case k__law_rows_text => k_is)
    (case a__law_some_rows => k_is)
    (case l__law_some_rows => k_is)
    (case c__law_some_rows => k_is)
    (case k__law_some_rows => k_is)
    (case a__law_chained => k_is)
    (case l__law_chained => k_is)
    (case c__law_chained => k_is)
    (case k__law_chained => k_is)
    (case a__law_touch => k_is)
    (case l__law_touch => k_is)
    (case c__law_touch => k_is)
    (case k__law_touch => k_is)
    (case a__law_laid => k_is)
    (case l__law_laid => k_is)
    (case c__law_laid => k_is)
    (case k__law_laid => k_is)
    (case fa_Reader___init__ => k_is)
    (case fn_Reader___init__ => k_is)
    (case l_Reader___init__ => k_is)
    (case ld_Reader___init__ => k_is)
    (case v_d_Reader___init__ => (repeat' first | exact .nil | refine .cons ⟨_, rfl⟩ ?_))
    (case c_Reader___init__ => k_is)
    (case k_Reader___init__ => k_is)
    (case fa_Reader_take_end => k_is)
    (case fn_Reader_take_end => k_is)
    (case l_Reader_take_end => k_is)
    (case c_Reader_take_end => k_is)
    (case k_Reader_take_end => k_is)
    (case sg_Change_read => k_is)
    (case sr_Change_read => k_is)
    (case l_Change_read => k_is)
    (case c_Change_read => k_is)
    (case k_Change_read => k_is)
    (case a__law_read_it => k_is)
    (case l__law_read_it => k_is)
    (case c__law_read_it => k_is)
    (case k__law_read_it => k_is)
    (case a__law_words => k_is)
    (case l__law_words => k_is)
    (case c__law_words => k_is)
    (case k__law_words => k_is)
    (case a__law_folded => k_is)
    (case l__law_folded => k_is)
    (case c__law_folded => k_is)
    (case k__law_folded => k_is)
    (case a__law_lets => k_is)
    (case l__law_lets => k_is)
    (case c__law_lets => k_is)
    (case k__law_lets => k_is)
    (case a__law_asks => k_is)
    (case l__law_asks => k_is)
    (case c__law_asks => k_is)
    (case k__law_asks => k_is)
    (case a__law_unfit => k_is)
    (case l__law_unfit => k_is)
    (case c__law_unfit => k_is)
    (case k__law_unfit => k_is)
    (case a__law_spoils => k_is)
    (case l__law_spoils => k_is)
    (case c__law_spoils => k_is)
    (case k__law_spoils => k_is)
    (case fa_Change_text => k_is)
    (case fn_Change_text => k_is)
    (case l_Change_text => k_is)
    (case c_Change_text => k_is)
    (case k_Change_text => k_is)
    (case a_law => k_is)
    (case l_law => k_is)
    (case c_law => k_is)
    (case k_law => k_is)
    (case z_ValueError => k_is)
    (case z_all => k_is)
    (case z_bool => k_is)
    (case z_dict => k_is)
    (case z_int => k_is)
    (case z_isinstance => k_is)
    (case z_len => k_is)
    (case z_list => k_is)
    (case z_property => k_is)
    (case z_range => k_is)
    (case z_staticmethod => k_is)
    (case z_str => k_is)
    (case z_super => k_is)
    (case z_tuple => k_is)
    (case g_BOUND => k_is)
    (case g_DIGITS => k_is)
    (case g_LETTERS => k_is)
    (case g_LONGEST_INTEGER => k_is)
    (case g_LONGEST_NAME => k_is)
    (case g_MARKS => k_is)
    (case l_MARKS => k_is)
    (case v_MARKS => (repeat' first | exact .nil | refine .cons ⟨_, rfl⟩ ?_))
    (case g_RESERVED => k_is)
    (case l_RESERVED => k_is)
    (case v_RESERVED => (repeat' first | exact .nil | refine .cons ⟨_, rfl⟩ ?_))
    (case g_SIGNS => k_is)
    (case l_SIGNS => k_is)
    (case v_SIGNS => (repeat' first | exact .nil | refine .cons ⟨_, rfl⟩ ?_))
    (case g_BadName => k_is)
    (case g_BadNumber => k_is)
    (case g_BadText => k_is)
    (case g_ElseputError => k_is)
    (case g_TooLarge => k_is)
    (case st_any => k_is)
    (case htop => first | rfl | decide +kernel | k_is)
    (case xc_BadName => k_is)
    (case ref_BadName => first | rfl | decide +kernel | k_is)
    (case sa_BadName => k_is)
    (case eb_BadName => k_is)
    (case ty_BadName => k_is)
    (case kC_BadName => k_is)
    (case iC_BadName => k_is)
    (case tI_BadName => k_is)
    (case sup_BadName => ks_is)
    (case sv_BadName => k_is)
    (case mro_BadName => k_is)
    (case no0_BadName => k_is)
    (case ga_BadName => k_is)
    (case gg_BadName => k_is)
    (case hd_BadName => k_is)
    (case hcl_BadName => k_is)
    (case hn_BadName => k_is)
    (case ht_BadName => k_is)
    (case hm_BadName => k_is)
    (case lf_BadName => k_is)
    (case cd_BadName => k_is)
    (case lc_BadName => k_is)
    (case v2_BadName => first | rfl | decide +kernel | k_is)
    (case fe_BadName => first | rfl | decide +kernel | k_is)
    (case lcc_BadName => k_is)
    (case hD_BadName => k_is)
    (case xc_BadNumber => k_is)
    (case ref_BadNumber => first | rfl | decide +kernel | k_is)
    (case sa_BadNumber => k_is)
    (case eb_BadNumber => k_is)
    (case ty_BadNumber => k_is)
    (case kC_BadNumber => k_is)
    (case iC_BadNumber => k_is)
    (case tI_BadNumber => k_is)
    (case sup_BadNumber => ks_is)
    (case sv_BadNumber => k_is)
    (case mro_BadNumber => k_is)
    (case no0_BadNumber => k_is)
    (case ga_BadNumber => k_is)
    (case gg_BadNumber => k_is)
    (case hd_BadNumber => k_is)
    (case hcl_BadNumber => k_is)
    (case hn_BadNumber => k_is)
    (case ht_BadNumber => k_is)
    (case hm_BadNumber => k_is)
    (case lf_BadNumber => k_is)
    (case cd_BadNumber => k_is)
    (case lc_BadNumber => k_is)
    (case v2_BadNumber => first | rfl | decide +kernel | k_is)
    (case fe_BadNumber => first | rfl | decide +kernel | k_is)
    (case lcc_BadNumber => k_is)
    (case hD_BadNumber => k_is)
    (case xc_BadText => k_is)
    (case ref_BadText => first | rfl | decide +kernel | k_is)
    (case sa_BadText => k_is)
    (case eb_BadText => k_is)
    (case ty_BadText => k_is)
    (case kC_BadText => k_is)
    (case iC_BadText => k_is)
    (case tI_BadText => k_is)
    (case sup_BadText => ks_is)
    (case sv_BadText => k_is)
    (case mro_BadText => k_is)
    (case no0_BadText => k_is)
    (case no1_BadText => k_is)
    (case ga_BadText => k_is)
    (case gg_BadText => k_is)
    (case hd_BadText => k_is)
    (case hcl_BadText => k_is)
    (case hn_BadText => k_is)
    (case ht_BadText => k_is)
    (case hm_BadText => k_is)
    (case lf_BadText => k_is)
    (case cd_BadText => k_is)
    (case lc_BadText => k_is)
    (case v2_BadText => first | rfl | decide +kernel | k_is)
    (case fe_BadText => first | rfl | decide +kernel | k_is)
    (case lcc_BadText => k_is)
    (case hD_BadText => k_is)
    (case xc_TooLarge => k_is)
    (case ref_TooLarge => first | rfl | decide +kernel | k_is)
    (case sa_TooLarge => k_is)
    (case eb_TooLarge => k_is)
    (case ty_TooLarge => k_is)
    (case kC_TooLarge => k_is)
    (case iC_TooLarge => k_is)
    (case tI_TooLarge => k_is)
    (case sup_TooLarge => ks_is)
    (case sv_TooLarge => k_is)
    (case mro_TooLarge => k_is)
    (case no0_TooLarge => k_is)
    (case ga_TooLarge => k_is)
    (case gg_TooLarge => k_is)
    (case hd_TooLarge => k_is)
    (case hcl_TooLarge => k_is)
    (case hn_TooLarge => k_is)
    (case ht_TooLarge => k_is)
    (case hm_TooLarge => k_is)
    (case lf_TooLarge => k_is)
    (case cd_TooLarge => k_is)
    (case lc_TooLarge => k_is)
    (case v2_TooLarge => first | rfl | decide +kernel | k_is)
    (case fe_TooLarge => first | rfl | decide +kernel | k_is)
    (case lcc_TooLarge => k_is)
    (case hD_TooLarge => k_is)
    (case mb_ElseputError => k_is)
    (case md_ElseputError => k_is)
    (case mt_ElseputError => k_is)
    (case ms_BadText_ElseputError => k_is)
    (case ms_TooLarge_ElseputError => k_is)
    (case kit_BadText_BadText => kit_is)
    (case kit_BadText_ValueError => kit_is)
    (case kit_BadText_TooLarge => kit_is)
    (case kit_TooLarge_BadText => kit_is)
    (case kit_TooLarge_ValueError => kit_is)
    (case kit_TooLarge_TooLarge => kit_is)
