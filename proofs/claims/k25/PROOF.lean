import PyProof.Rows.All
import Wide.All
import OpenK.AllK
import Wide.FinOn
import HandS.ForMost
import HandS.Wide
import HandS.TupAny
import HandS.IsInst
import HandS.Flow
import HandS.Evl
import HandS.Walk
import HandS.ExcInit
import HandS.Nested
import HandS.FStr
import HandS.TryOnly
import HandS.TryMany
import HandS.ExcIs
import HandS.ExcField
import HandS.WordsExc
import HandS.RaiseMore
import KE.KExcSuper
import KE.KExcIs
import PyProof.StrOps2
import PyProof.Rows.ReprOcc
import PyProof.Rows.StrDigits
import PyProof.Rows.StrJoinMade
import HandS.ClsMeth
import HandS.Star
import HandS.Property
import HandS.New
import HandS.ExcOwn
import HandS.More
import HandS.Dict
import HandS.Small
import KE.KOpsOwn
import OpenK.KMeth
import HandS.Conv
import HandS.Finally
import PyProof.StrLawsRepr
import HandS.Defaults
import HandS.Text
import HandS.IterVal
import KE.KOwnIter
import HandS.Strs
import HandS.Iter
import KE.GoesMore
import KE.KRevSl
import HandS.Style
import PySem.Challenge.RW_elseput_k25_orders_by_operators
set_option Elab.async false
set_option linter.all false
set_option maxRecDepth 100000
/-! Own words over the hand layer: readings that compute on the values' shapes. -/
namespace El
open PySem PySem.Spec PyProof.Rows L2
section
variable {X : Cx}

theorem wk {e : Expr} {t t' : TE} (h : PE X e t) (i : ∀ σ H Q, t' σ H Q → t σ H Q) : PE X e t' :=
  ⟨fun pins s σ H Q I q => h.run pins s σ H Q I (i σ H Q q)⟩
theorem opwk {f : Value → Value → Sem Value} {r r' : R2} (h : OpR X f r) (i : ∀ x y H Q, r' x y H Q → r x y H Q) : OpR X f r' :=
  fun pins s σ H x y v u Q I rx ry q => h pins s σ H x y v u Q I rx ry (i x y H Q q)
theorem unwk {f : Value → Sem Value} {r r' : V → Hp → VK → Prop} (h : UnR X f r) (i : ∀ x H Q, r' x H Q → r x H Q) : UnR X f r' :=
  fun pins s σ H x v Q I rx q => h pins s σ H x v Q I rx (i x H Q q)
theorem cwk {f : Value} {r r' : List V → Hp → VK → Prop} (h : CallR X f r) (i : ∀ x H Q, r' x H Q → r x H Q) : CallR X f r' :=
  fun pins s σ H x v Q I rx q => h pins s σ H x v Q I rx (i x H Q q)
theorem ixwk {r r' : R2} (h : IxR X r) (i : ∀ x y H Q, r' x y H Q → r x y H Q) : IxR X r' :=
  fun a b pins s σ H x y v u Q I rx ry q => h a b pins s σ H x y v u Q I rx ry (i x y H Q q)
theorem slwk {r r' : V → Option Int → Option Int → Hp → VK → Prop} (h : SlR X r) (i : ∀ x a b H Q, r' x a b H Q → r x a b H Q) : SlR X r' :=
  fun pins s σ H x v vl vu lo hi sl Q I rx hs pl pu q => h pins s σ H x v vl vu lo hi sl Q I rx hs pl pu (i x lo hi H Q q)

/-! ### a name in its slot -/
def tV (i : Nat) : TE := fun σ H Q => match σ[i]? with | some (some v) => Q v H | _ => False
theorem v_ (i : Nat) {x : Str} {pos : Pos} (hN : X.N[i]? = some x := by rfl) (hv : Vis X.env.scope x := by first | exact Or.inl rfl | exact Or.inr (Or.inl rfl) | exact Or.inr (Or.inr rfl)) (hd : (x == ("__debug__" : Str)) = false := by decide)
    (hcd : (x == ("__classdict__" : Str)) = false := by decide) : PE X (.Name x pos) (tV i) :=
  wk (pv i hN hv hd hcd) fun σ H Q q => by
    unfold tV at q
    split at q
    · rename_i v e; exact ⟨v, e, q⟩
    · exact q.elim

/-! ### operators -/
def addM (K : PySem.W.Frag) : R2 := fun x y H Q => match x, y with
  | .int i, .int j => Q (.int (i + j)) H
  | .str i, .str j => i.length + j.length ≤ sizeLine ∧ Q (.str (i ++ j)) H
  | .ref a, .ref b => (∃ xs zs, H a = some (.lst xs) ∧ H b = some (.lst zs) ∧ xs.length + zs.length ≤ sizeLine ∧ ∀ p, H p = none → Q (.ref p) (upd H p (.lst (xs ++ zs)))) ∨ rCatT K (.ref a) (.ref b) H Q
  | _, _ => False
theorem op_addM : OpR X (binaryOp .Add) (addM X.K) := opwk (OpR.or op_add (OpR.or op_add_str (OpR.or op_cat op_catT))) fun x y H Q q => by
  unfold addM at q
  split at q
  · exact .inl ⟨_, _, rfl, rfl, q⟩
  · exact .inr (.inl ⟨_, _, rfl, rfl, q⟩)
  · rcases q with ⟨xs, zs, h1, h2, h3, h4⟩ | q
    · exact .inr (.inr (.inl ⟨_, _, xs, zs, rfl, rfl, h1, h2, h3, h4⟩))
    · exact .inr (.inr (.inr q))
  · exact q.elim
def subM : R2 := fun x y H Q => match x, y with
  | .int i, .int j => Q (.int (i - j)) H
  | _, _ => False
theorem op_subM : OpR X (binaryOp .Sub) subM := opwk op_sub fun x y H Q q => by
  unfold subM at q
  split at q
  · exact ⟨_, _, rfl, rfl, q⟩
  · exact q.elim
def mulM : R2 := fun x y H Q => match x, y with
  | .int i, .int j => (CMul i j ∨ CMulW i j) ∧ Q (.int (i * j)) H
  | .ref l, .int k => ∃ xs, H l = some (.lst xs) ∧ (-(2 ^ 63) ≤ k ∧ k < 2 ^ 63) ∧ xs.length * k.toNat ≤ sizeLine ∧ ∀ p, H p = none → Q (.ref p) (upd H p (.lst (List.replicate k.toNat xs).flatten))
  | _, _ => False
theorem op_mulM : OpR X (binaryOp .Mult) mulM := opwk (OpR.or op_mul (OpR.or op_mulW op_rep)) fun x y H Q q => by
  unfold mulM at q
  split at q
  · obtain ⟨h | h, q⟩ := q
    · exact .inl ⟨_, _, rfl, rfl, h, q⟩
    · exact .inr (.inl ⟨_, _, rfl, rfl, h, q⟩)
  · obtain ⟨xs, h1, h2, h3, h4⟩ := q
    exact .inr (.inr ⟨_, _, xs, rfl, rfl, h1, h2.1, h2.2, h3, h4⟩)
  · exact q.elim
def divM : R2 := fun x y H Q => match x, y with
  | .int i, .int j => (CDiv i j ∨ CDivW i j) ∧ Q (.int (i / j)) H
  | _, _ => False
theorem op_divM : OpR X (binaryOp .FloorDiv) divM := opwk (OpR.or op_fdiv op_fdivW) fun x y H Q q => by
  unfold divM at q
  split at q
  · obtain ⟨h | h, q⟩ := q
    · exact .inl ⟨_, _, rfl, rfl, h, q⟩
    · exact .inr ⟨_, _, rfl, rfl, h, q⟩
  · exact q.elim
def modM : R2 := fun x y H Q => match x, y with
  | .int i, .int j => 0 < j ∧ Q (.int (i % j)) H
  | _, _ => False
theorem op_modM : OpR X (binaryOp .Mod) modM := opwk op_mod fun x y H Q q => by
  unfold modM at q
  split at q
  · exact ⟨_, _, rfl, rfl, q.1, q.2⟩
  · exact q.elim
def powM : R2 := fun x y H Q => match x, y with
  | .int i, .int j => CPow i j ∧ Q (.int (i ^ j.toNat)) H
  | _, _ => False
theorem op_powM : OpR X (binaryOp .Pow) powM := opwk op_pow fun x y H Q q => by
  unfold powM at q
  split at q
  · exact ⟨_, _, rfl, rfl, q.1, q.2⟩
  · exact q.elim
def negM : V → Hp → VK → Prop := fun x H Q => match x with
  | .int i => Q (.int (-i)) H
  | _ => False
theorem un_negM : UnR X (unaryOp .USub) negM := unwk un_neg fun x H Q q => by
  unfold negM at q
  split at q
  · exact ⟨_, rfl, q⟩
  · exact q.elim

/-! ### comparisons -/
def cmpM (f : Int → Int → Bool) : R2 := fun x y H Q => match x, y with
  | .int i, .int j => Q (.bl (f i j)) H
  | _, _ => False
theorem cmpwk {f : Int → Int → Bool} {g : Value → Value → Sem Value} (h : OpR X g (rI0 fun i j => .bl (f i j))) : OpR X g (cmpM f) := opwk h fun x y H Q q => by
  unfold cmpM at q
  split at q
  · exact ⟨_, _, rfl, rfl, q⟩
  · exact q.elim
theorem op_ltM : OpR X (compareOp .Lt) (cmpM fun i j => decide (i < j)) := cmpwk op_lt
theorem op_leM : OpR X (compareOp .LtE) (cmpM fun i j => decide (i ≤ j)) := cmpwk op_le
theorem op_gtM : OpR X (compareOp .Gt) (cmpM fun i j => decide (j < i)) := cmpwk op_gt
theorem op_geM : OpR X (compareOp .GtE) (cmpM fun i j => decide (j ≤ i)) := cmpwk op_ge
/-- ==: of plain values by the values; else of data -/
def eqM (K : PySem.W.Frag) : R2 := fun x y H Q => match x, y with
  | .int i, .int j => Q (.bl (decide (i = j))) H
  | .str i, .str j => Q (.bl (decide (i = j))) H
  | .bl i, .bl j => Q (.bl (decide (i = j))) H
  | .non, .non => Q (.bl true) H
  | .non, .int _ => Q (.bl false) H
  | .int _, .non => Q (.bl false) H
  | .non, .str _ => Q (.bl false) H
  | .str _, .non => Q (.bl false) H
  | .non, .bl _ => Q (.bl false) H
  | .bl _, .non => Q (.bl false) H
  | .int _, .str _ => Q (.bl false) H
  | .str _, .int _ => Q (.bl false) H
  | .bl _, .str _ => Q (.bl false) H
  | .str _, .bl _ => Q (.bl false) H
  | x, y => rEqD K x y H Q
theorem op_eqM (hu : X.A.units + 64 < cLine) : OpR X (compareOp .Eq) (eqM X.K) := opwk (OpR.or op_eq (op_eqD hu)) fun x y H Q q => by
  unfold eqM at q
  split at q
  all_goals first
    | exact .inl ⟨rfl, by simpa using q⟩
    | exact .inr q
def neM (K : PySem.W.Frag) : R2 := fun x y H Q => match x, y with
  | .int i, .int j => Q (.bl (!decide (i = j))) H
  | .str i, .str j => Q (.bl (!decide (i = j))) H
  | .bl i, .bl j => Q (.bl (!decide (i = j))) H
  | .non, .non => Q (.bl false) H
  | .non, .int _ => Q (.bl true) H
  | .int _, .non => Q (.bl true) H
  | .non, .str _ => Q (.bl true) H
  | .str _, .non => Q (.bl true) H
  | .non, .bl _ => Q (.bl true) H
  | .bl _, .non => Q (.bl true) H
  | .int _, .str _ => Q (.bl true) H
  | .str _, .int _ => Q (.bl true) H
  | .bl _, .str _ => Q (.bl true) H
  | .str _, .bl _ => Q (.bl true) H
  | x, y => rNeD K x y H Q
theorem op_neM (hu : X.A.units + 64 < cLine) : OpR X (compareOp .NotEq) (neM X.K) := opwk (OpR.or op_ne (op_neD hu)) fun x y H Q q => by
  unfold neM at q
  split at q
  all_goals first
    | exact .inl ⟨rfl, by simpa using q⟩
    | exact .inr q
/-- is, is not: None, True, False -/
def isV (x y : V) : Bool := match x, y with
  | .non, .non => true
  | .bl a, .bl b => a == b
  | _, _ => false
def litV (y : V) : Bool := match y with | .non => true | .bl _ => true | _ => false
def isM : R2 := fun x y H Q => match litV y with | true => Q (.bl (isV x y)) H | false => False
def notM : R2 := fun x y H Q => match litV y with | true => Q (.bl (!isV x y)) H | false => False
theorem lit_cases {y : V} (h : litV y = true) : y = .non ∨ ∃ b, y = .bl b := by
  cases y with
  | non => exact .inl rfl
  | bl b => exact .inr ⟨b, rfl⟩
  | _ => exact absurd (show false = true from h) (by decide)
theorem is_other {A : Around} {E : Value → Shared → Prop} {M : Model} {x : V} {v : Value} {b : Bool} {s : Shared} {Q : Value → Shared → Prop} (rx : RelV x v) (h : Q (.bool (isV x (.bl b))) s) : wpAny M A (compareOp .Is v (.bool b)) Q E s := by
  cases x with
  | bl a =>
    cases rx
    by_cases e : a = b
    · subst e; exact wpAny_is_self rfl (by simpa [isV] using h)
    · exact wpAny_is_other rfl (fun z => e (Value.bool.inj z)) (by rw [show isV (.bl a) (.bl b) = false from beq_eq_false_iff_ne.mpr e] at h; exact h)
  | non => cases rx; exact wpAny_is_other rfl (by intro z; cases z) h
  | int i => obtain ⟨t, rfl⟩ := rx; exact wpAny_is_other rfl (by intro z; cases z) h
  | str i => obtain ⟨t, rfl⟩ := rx; exact wpAny_is_other rfl (by intro z; cases z) h
  | byt i => obtain ⟨t, rfl⟩ := rx; exact wpAny_is_other rfl (by intro z; cases z) h
  | flt i => obtain ⟨t, rfl⟩ := rx; exact wpAny_is_other rfl (by intro z; cases z) h
  | ref a => cases rx; exact wpAny_is_other rfl (by intro z; cases z) h
  | ty n => cases rx; exact wpAny_is_other rfl (by intro z; cases z) h
theorem isnot_other {A : Around} {E : Value → Shared → Prop} {M : Model} {x : V} {v : Value} {b : Bool} {s : Shared} {Q : Value → Shared → Prop} (rx : RelV x v) (h : Q (.bool (!isV x (.bl b))) s) : wpAny M A (compareOp .IsNot v (.bool b)) Q E s := by
  cases x with
  | bl a =>
    cases rx
    by_cases e : a = b
    · subst e; exact wpAny_isNot_self rfl (by simpa [isV] using h)
    · exact wpAny_isNot_other rfl (fun z => e (Value.bool.inj z)) (by rw [show isV (.bl a) (.bl b) = false from beq_eq_false_iff_ne.mpr e] at h; exact h)
  | non => cases rx; exact wpAny_isNot_other rfl (by intro z; cases z) h
  | int i => obtain ⟨t, rfl⟩ := rx; exact wpAny_isNot_other rfl (by intro z; cases z) h
  | str i => obtain ⟨t, rfl⟩ := rx; exact wpAny_isNot_other rfl (by intro z; cases z) h
  | byt i => obtain ⟨t, rfl⟩ := rx; exact wpAny_isNot_other rfl (by intro z; cases z) h
  | flt i => obtain ⟨t, rfl⟩ := rx; exact wpAny_isNot_other rfl (by intro z; cases z) h
  | ref a => cases rx; exact wpAny_isNot_other rfl (by intro z; cases z) h
  | ty n => cases rx; exact wpAny_isNot_other rfl (by intro z; cases z) h
theorem isV_non (x : V) : isV x .non = decide (x = .non) := by cases x <;> rfl
theorem op_isM : OpR X (compareOp .Is) isM := by
  intro pins s σ H x y v u Q I rx ry q
  unfold isM at q
  split at q
  · rename_i e
    rcases lit_cases e with rfl | ⟨b, rfl⟩
    · exact op_isN pins s σ H x .non v u Q I rx ry ⟨rfl, by rw [← isV_non]; exact q⟩
    · cases ry
      exact is_other rx ⟨.bl _, H, I, rfl, q⟩
  · exact q.elim
theorem op_isNotM : OpR X (compareOp .IsNot) notM := by
  intro pins s σ H x y v u Q I rx ry q
  unfold notM at q
  split at q
  · rename_i e
    rcases lit_cases e with rfl | ⟨b, rfl⟩
    · exact op_notN pins s σ H x .non v u Q I rx ry ⟨rfl, by rw [← isV_non]; exact q⟩
    · cases ry
      exact isnot_other rx ⟨.bl _, H, I, rfl, q⟩
  · exact q.elim
/-- in: a list or a tuple of plain things; a sign in a text -/
def inM (K : PySem.W.Frag) (neg : Bool) : R2 := fun x y H Q => match y with
  | .str z => ∃ c : Nat, x = .str ⟨#[c]⟩ ∧ Q (.bl (if neg then !decide (c ∈ z.cps.toList) else decide (c ∈ z.cps.toList))) H
  | .ref p => ∃ xs, (SqL K H p xs ∨ SqT K H p xs) ∧ flatV x = true ∧ xs.all flatV = true ∧ Q (.bl (if neg then !inV x xs else inV x xs)) H
  | _ => False
theorem op_inM : OpR X (compareOp .In) (inM X.K false) := opwk (OpR.or op_in_sign op_in_seq) fun x y H Q q => by
  unfold inM at q
  split at q
  · obtain ⟨c, e, q⟩ := q
    exact .inl ⟨c, _, e, rfl, q⟩
  · obtain ⟨xs, h1, h2, h3, q⟩ := q
    exact .inr ⟨_, xs, rfl, h1, h2, h3, q⟩
  · exact q.elim
theorem op_notInM : OpR X (compareOp .NotIn) (inM X.K true) := opwk (OpR.or op_notIn_sign op_notIn_seq) fun x y H Q q => by
  unfold inM at q
  split at q
  · obtain ⟨c, e, q⟩ := q
    exact .inl ⟨c, _, e, rfl, q⟩
  · obtain ⟨xs, h1, h2, h3, q⟩ := q
    exact .inr ⟨_, xs, rfl, h1, h2, h3, q⟩
  · exact q.elim

/-! ### tests -/
variable {a b : Expr} {rest : List Expr} {ta tb : TE} {pos : Pos}
def tTs (t : TE) : TT := fun σ H Q => t σ H fun x H' => match x with | .bl k => Q k H' | _ => False
theorem pt_c {op : CmpOp} {r : R2} (ho : OpR X (compareOp op) r) (ha : PE X a ta) (hb : PE X b tb) (hm : behindInMarks op b = false := by first | exact nomark _ | rfl) : PT X (.Compare a [op] [b] pos) (tTs (tOp r ta tb)) := by
  refine ⟨fun pins s σ H Q I h => ?_⟩
  refine wpAny_isTrue_Compare1 (thn (ha.run pins s σ H _ I h) fun v s1 ⟨x, H1, I1, r1, q1⟩ => thn (hb.run pins s1 σ H1 _ I1 q1) fun u s2 ⟨y, H2, I2, r2, q2⟩ =>
    thn (ho pins s2 σ H2 x y v u _ I2 r1 r2 q2) fun c s3 ⟨z, H3, I3, r3, q3⟩ => ?_) hm
  cases z with
  | bl k => cases r3; exact wpAny_truthy_bool ⟨H3, I3, q3⟩
  | _ => exact (show False from q3).elim
theorem pe_c {op : CmpOp} {r : R2} (ho : OpR X (compareOp op) r) (ha : PE X a ta) (hb : PE X b tb) (hm : behindInMarks op b = false := by first | exact nomark _ | rfl) : PE X (.Compare a [op] [b] pos) (tOp r ta tb) := pe_cmpR ho ha hb hm
/-- any value's truth -/
def tTr (K : PySem.W.Frag) (t : TE) : TT := fun σ H Q => t σ H fun x H' => match x with
  | .bl k => Q k H'
  | .non => Q false H'
  | .int i => Q (i != 0) H'
  | .str y => y.length ≤ sizeLine ∧ Q ((y.length : Int) != 0) H'
  | .ref p => (∃ xs, SqL K H' p xs ∧ Q (!xs.isEmpty) H') ∨ (∃ xs, SqT K H' p xs ∧ Q (!xs.isEmpty) H') ∨ ∃ kvs, H' p = some (.dK kvs) ∧ Q (!kvs.isEmpty) H'
  | _ => False
theorem pt_tr (ha : PE X a ta) (he : ∀ whole, isTrue a X.env whole = (do let v ← whole; standAt a.pos; holding [v] (truthy v)) := by intro _; rfl) : PT X a (tTr X.K ta) := by
  refine ⟨fun pins s σ H Q I h => ?_⟩
  refine isTrue_plain (thn (ha.run pins s σ H _ I h) fun v s1 ⟨x, H1, I1, r1, q1⟩ => tru_ok pins s1 σ H1 x v Q I1 r1 ?_) (he _)
  cases x with
  | bl k => exact ⟨k, rfl, q1⟩
  | non => exact ⟨false, rfl, q1⟩
  | int i => exact ⟨_, rfl, q1⟩
  | str y => exact ⟨_, ⟨q1.1, rfl⟩, q1.2⟩
  | ref p =>
    rcases (show (∃ xs, SqL X.K H1 p xs ∧ Q (!xs.isEmpty) H1) ∨ (∃ xs, SqT X.K H1 p xs ∧ Q (!xs.isEmpty) H1) ∨ ∃ kvs, H1 p = some (.dK kvs) ∧ Q (!kvs.isEmpty) H1 from q1) with ⟨xs, h, q⟩ | ⟨xs, h, q⟩ | ⟨xs, h, q⟩
    · exact ⟨_, .inl ⟨xs, h, rfl⟩, q⟩
    · exact ⟨_, .inr (.inl ⟨xs, h, rfl⟩), q⟩
    · exact ⟨_, .inr (.inr ⟨xs, h, rfl⟩), q⟩
  | _ => exact (show False from q1).elim
def tAndM (ta tb : TE) : TE := fun σ H Q => ta σ H fun x H1 => match x with | .bl c => (if c = true then tb σ H1 Q else Q (.bl false) H1) | _ => False
def tOrM (ta tb : TE) : TE := fun σ H Q => ta σ H fun x H1 => match x with | .bl c => (if c = true then Q (.bl true) H1 else tb σ H1 Q) | _ => False
def tNotM (ta : TE) : TE := fun σ H Q => ta σ H fun x H1 => match x with | .bl c => Q (.bl (!c)) H1 | _ => False
theorem pe_andM (ha : PE X a ta) (hb : PE X (.BoolOp .And (b :: rest) pos) tb) : PE X (.BoolOp .And (a :: b :: rest) pos) (tAndM ta tb) := by
  refine ⟨fun pins s σ H Q I h => ?_⟩
  refine BoolOp_and (thn (ha.run pins s σ H _ I h) fun v s1 ⟨x, H1, I1, r1, q1⟩ => ?_)
  cases x with
  | bl c =>
    cases r1
    refine wpAny_truthy_bool ?_
    cases c with
    | true => exact hb.run pins s1 σ H1 Q I1 q1
    | false => exact ⟨.bl false, H1, I1, rfl, q1⟩
  | _ => exact (show False from q1).elim
theorem pe_orM (ha : PE X a ta) (hb : PE X (.BoolOp .Or (b :: rest) pos) tb) : PE X (.BoolOp .Or (a :: b :: rest) pos) (tOrM ta tb) := by
  refine ⟨fun pins s σ H Q I h => ?_⟩
  refine BoolOp_or (thn (ha.run pins s σ H _ I h) fun v s1 ⟨x, H1, I1, r1, q1⟩ => ?_)
  cases x with
  | bl c =>
    cases r1
    refine wpAny_truthy_bool ?_
    cases c with
    | false => exact hb.run pins s1 σ H1 Q I1 q1
    | true => exact ⟨.bl true, H1, I1, rfl, q1⟩
  | _ => exact (show False from q1).elim
theorem pe_notM (ha : PE X a ta) : PE X (.UnaryOp .Not a pos) (tNotM ta) := by
  refine ⟨fun pins s σ H Q I h => ?_⟩
  refine UnaryOp_ (thn (ha.run pins s σ H _ I h) fun v s1 ⟨x, H1, I1, r1, q1⟩ => ?_)
  cases x with
  | bl c => cases r1; exact not_of (wpAny_truthy_bool ⟨.bl (!c), H1, I1, rfl, q1⟩)
  | _ => exact (show False from q1).elim

/-! ### subscripts, slices, calls of built-ins -/
def ixM (K : PySem.W.Frag) : R2 := fun x y H Q => match x, y with
  | .str z, .int i => z.length ≤ sizeLine ∧ ∃ c, atI z.cps.toList i = some c ∧ Q (.str ⟨#[c]⟩) H
  | .ref p, .int i => ∃ xs, (SqL K H p xs ∨ SqT K H p xs) ∧ ∃ v, atI xs i = some v ∧ Q v H
  | _, _ => False
theorem ix_M : IxR X (ixM X.K) := ixwk ix_seq fun x y H Q q => by
  unfold ixM at q
  split at q
  · obtain ⟨h, c, e, q⟩ := q
    exact .inr (.inr ⟨_, _, c, rfl, rfl, h, e, q⟩)
  · obtain ⟨xs, h | h, v, e, q⟩ := q
    · exact .inl ⟨_, xs, _, v, rfl, rfl, h, e, q⟩
    · exact .inr (.inl ⟨_, xs, _, v, rfl, rfl, h, e, q⟩)
  · exact q.elim
theorem e_ix (ha : PE X a ta) (hb : PE X b tb) (hs : PlainIx b := by intro _ _; rfl) : PE X (.Subscript a b pos) (tOp (ixM X.K) ta tb) := pe_ix ix_M ha hb hs
def slM (K : PySem.W.Frag) : V → Option Int → Option Int → Hp → VK → Prop := fun x lo hi H Q => match x with
  | .str z => z.length ≤ sizeLine ∧ Q (.str (cutS z lo hi)) H
  | .ref p => (∃ xs, SqL K H p xs ∧ ∀ q, H q = none → Q (.ref q) (upd H q (.lst (cutV xs lo hi)))) ∨ rSlT K (.ref p) lo hi H Q
  | _ => False
theorem sl_M : SlR X (slM X.K) := slwk (SlR.or sl_str (SlR.or sl_list sl_tup)) fun x lo hi H Q q => by
  unfold slM at q
  split at q
  · exact .inl ⟨_, rfl, q.1, q.2⟩
  · rcases q with ⟨xs, h, q⟩ | q
    · exact .inr (.inl ⟨_, xs, rfl, h, q⟩)
    · exact .inr (.inr q)
  · exact q.elim
def intM : List V → Hp → VK → Prop := fun xs H Q => match xs with
  | [.int i] => Q (.int i) H
  | [.bl k] => Q (.int (if k then 1 else 0)) H
  | [.str a] => ∃ n, PySem.intText? a = some n ∧ a.length ≤ 640 ∧ Q (.int n) H
  | _ => False
theorem call_intM : CallR X (.type "int") intM := cwk (CallR.or call_int1 call_int_str) fun xs H Q q => by
  unfold intM at q
  split at q
  · exact .inl (.inl ⟨_, rfl, q⟩)
  · exact .inl (.inr ⟨_, rfl, q⟩)
  · obtain ⟨n, h1, h2, q⟩ := q
    exact .inr ⟨_, n, rfl, h1, h2, q⟩
  · exact q.elim
def lenM (K : PySem.W.Frag) : List V → Hp → VK → Prop := fun xs H Q => match xs with
  | [.str z] => z.length ≤ sizeLine ∧ Q (.int z.length) H
  | [.ref p] => (∃ xs, (SqL K H p xs ∨ SqT K H p xs) ∧ Q (.int xs.length) H) ∨ ∃ kvs, H p = some (.dK kvs) ∧ Q (.int kvs.length) H
  | _ => False
theorem call_lenM : CallR X (.builtin "len") (lenM X.K) := cwk (CallR.or call_len_str (CallR.or call_len_seq call_lenD)) fun xs H Q q => by
  unfold lenM at q
  split at q
  · exact .inl ⟨_, rfl, q.1, q.2⟩
  · rcases q with ⟨xs, h, q⟩ | ⟨kvs, h, q⟩
    · exact .inr (.inl ⟨_, xs, rfl, h, q⟩)
    · exact .inr (.inr ⟨_, kvs, rfl, h, q⟩)
  · exact q.elim

/-! ### the same, the written part named -/
theorem addK (K : PySem.W.Frag) (h : X.K = K := by rfl) : OpR X (binaryOp .Add) (addM K) := h ▸ op_addM
theorem eqK (K : PySem.W.Frag) (hu : X.A.units + 64 < cLine) (h : X.K = K := by rfl) : OpR X (compareOp .Eq) (eqM K) := h ▸ op_eqM hu
theorem neK (K : PySem.W.Frag) (hu : X.A.units + 64 < cLine) (h : X.K = K := by rfl) : OpR X (compareOp .NotEq) (neM K) := h ▸ op_neM hu
theorem inK (K : PySem.W.Frag) (h : X.K = K := by rfl) : OpR X (compareOp .In) (inM K false) := h ▸ op_inM
theorem notInK (K : PySem.W.Frag) (h : X.K = K := by rfl) : OpR X (compareOp .NotIn) (inM K true) := h ▸ op_notInM
theorem pt_t (K : PySem.W.Frag) (ha : PE X a ta) (he : ∀ whole, isTrue a X.env whole = (do let v ← whole; standAt a.pos; holding [v] (truthy v)) := by intro _; rfl) (h : X.K = K := by rfl) : PT X a (tTr K ta) := h ▸ pt_tr ha he
theorem e_x (K : PySem.W.Frag) (ha : PE X a ta) (hb : PE X b tb) (hs : PlainIx b := by intro _ _; rfl) (h : X.K = K := by rfl) : PE X (.Subscript a b pos) (tOp (ixM K) ta tb) := h ▸ e_ix ha hb hs
theorem slK (K : PySem.W.Frag) (h : X.K = K := by rfl) : SlR X (slM K) := h ▸ sl_M
theorem lenK (K : PySem.W.Frag) (h : X.K = K := by rfl) : CallR X (.builtin "len") (lenM K) := h ▸ call_lenM
theorem listK (K : PySem.W.Frag) (h : X.K = K := by rfl) : CallR X (.type "list") (fun xs H Q => ∃ p ys, xs = [.ref p] ∧ (SqL K H p ys ∨ SqT K H p ys) ∧ ∀ l, H l = none → Q (.ref l) (upd H l (.lst ys))) := h ▸ call_list_of
theorem tupleK (K : PySem.W.Frag) (h : X.K = K := by rfl) : CallR X (.type "tuple") (fun xs H Q => ∃ p ys, xs = [.ref p] ∧ ((SqL K H p ys ∧ ∀ l, H l = none → Q (.ref l) (upd H l (.tup ys))) ∨ (SqT K H p ys ∧ Q (.ref p) H))) := h ▸ call_tuple_of
theorem isiK (K : PySem.W.Frag) (h : X.K = K := by rfl) : CallR X (.builtin "isinstance") (rIsi K) := h ▸ call_isi
theorem allK (K : PySem.W.Frag) (hc : X.calm = true) (h : X.K = K := by rfl) : CallR X (.builtin "all") (rAll K) := h ▸ cr_all hc
theorem anyK (K : PySem.W.Frag) (hc : X.calm = true) (h : X.K = K := by rfl) : CallR X (.builtin "any") (rAny K) := h ▸ cr_any hc
theorem sortedK (K : PySem.W.Frag) (h : X.K = K := by rfl) : CallR X (.builtin "sorted") (rSorted K) := h ▸ cr_sorted
theorem sumK (K : PySem.W.Frag) (hc : X.calm = true) (h : X.K = K := by rfl) : CallR X (.builtin "sum") (rSum K) := h ▸ cr_sum hc

/-! ### calls of own defs -/
structure Cal (P : Program) (w : World) (K : PySem.W.Frag) (mg : Str → Option Value) (base : Heap) (CX : CXT) (k : Nat) (x : Str) (f : Addr) (fd : FuncData) (ps : List Str) (sp : Sp) : Prop where
  G : FnOk P w K mg base CX k f fd ps sp
  b : Binds K fd ps []
  kp : PySem.W.keepIn K (.ref f) = true
  m : mg x = some (.ref f)
end
end El

set_option Elab.async false
set_option linter.all false
set_option maxRecDepth 100000
set_option maxHeartbeats 4000000
/-! Own words: an own exception's first row super().__init__(e), the rest of its __init__ by the layer. -/
namespace El
open PySem PySem.Spec PyProof.Rows L2 NdefX
abbrev supRow (p0 p1 p2 p3 p4 : Pos) (e1 : Expr) : Stmt := .Expr (.Call (.Attribute (.Call (.Name "super" p0) [] [] p1) "__init__" p2) [e1] [] p3) p4
abbrev supNF (name qual : Str) (params : Arguments) (body : List Stmt) (scope : Scope) (cc cda : Addr) : NF := ⟨name, qual, params, body, scope, [("__class__", cc)], cda⟩

theorem inv_unpin {X : Cx} {pins : List (Addr × Obj)} {σ : L2.St} {H : Hp} {s : Shared} (I : Inv X pins σ H s) : Inv X [] σ H s := I.pins_of fun p hp => absurd hp (by simp)

theorem fn_super {P : Program} {w : World} {K : PySem.W.Frag} {mg : Str → Option Value} {base : Heap} {CX : CXT} {k : Nat} {f cc cda D : Addr} {name qual : Str} {params : Arguments} {scope : Scope} {doc pm ct oc ccl cl : Value} {od cdd cld : Option Addr} {osl ccs csl : Array (Option Value)} {vs0 : Array Value} {file : Str} {tf : Tok} {cdD : ClassData}
    {N ps : List Str} {sp : Sp} {e1 : Expr} {rest : List Stmt} {p0 p1 p2 p3 p4 : Pos} {ar : Arg}
    (lk : K.lookup f = some ⟨oc, od, .func (PySem.W.fnX name qual params (supRow p0 p1 p2 p3 p4 e1 :: rest) scope [("__class__", cc)] .none .none doc pm none (.ref cda) ct), osl⟩)
    (hcd : PySem.W.codeIn K (.ref cda) qual = true) (S : NScope N ps ["__class__"] scope)
    (hcode : K.lookup cda = some ⟨ccl, cdd, .fields vs0, ccs⟩) (hvs : vs0[2]? = some (.str file tf)) (hfile : ((P.main.file : Str) == file) = true)
    (hcell : K.lookup cc = some ⟨cl, cld, .cell (some (.ref D)), csl⟩) (hD : PySem.W.clsIn K D = some cdD) (hsuper : mg "super" = none)
    (hop : PySem.W.nsIn K PySem.cStatics "thirdparty.any" = some none)
    (hp : (params.posonlyargs ++ params.args).head? = some ar) (hps : ps[0]? = some ar.arg)
    (hks : scope.names.lookup ("super" : Str) = some .globalImplicit) (htop : (P.main.scope.names.lookup ("super" : Str)).isSome = false)
    (hboot : bootBuiltins "super" = some (.type "super"))
    (len : ∀ vs H Q E, sp vs H Q E → vs.length = ps.length)
    (hbody : ∀ (A : Around) (outer : List Env) (s : Shared) (H : Hp) (vs : List V) (Q : VK) (E : XK), Room k (A.deeper (envF (supNF name qual params (supRow p0 p1 p2 p3 p4 e1 :: rest) scope cc cda) f s.heap.objs.size)) → sp vs H Q E →
      ∃ (a C : Addr) (ta : TA) (t : TS), vs[0]? = some (.ref a) ∧ H a = some (exo a C none) ∧ OexC K C ∧ PySem.W.mroIn K C (.ref D) = some true ∧ PySem.W.ks_superIn K C D "__init__" = some (some (.builtin "ValueError.__init__")) ∧ PySem.W.subIn K (.ref C) (.type "ValueError") = some true ∧
        PA (ncx CX P w K mg base N (supNF name qual params (supRow p0 p1 p2 p3 p4 e1 :: rest) scope cc cda) f A outer s H E) [e1] ta ∧
        PSs (ncx CX P w K mg base N (supNF name qual params (supRow p0 p1 p2 p3 p4 e1 :: rest) scope cc cda) f A outer s H E) rest t ∧
        ta (startF N vs [none]) H fun ws H1 => H1 a = some (exo a C none) ∧ ws.length ≤ 1000 ∧ t { nx := fun _ H' => Q .non H', rt := Q } (startF N vs [none]) H1)
    (hst : ∀ env : Env, starEach [e1] env = (false, eval e1 env) :: starEach [] env) {pl : Env → Sem Bool}
    (he : ∀ env : Env, eval (.Call (.Attribute (.Call (.Name "super" p0) [] [] p1) "__init__" p2) [e1] [] p3) env = (do
      let ov ← attributeBase (.Call (.Name "super" p0) [] [] p1) "__init__" env (eval (.Call (.Name "super" p0) [] [] p1) env)
      standAt p2.atName
      let (f, first) ← holding [ov] (getMethod ov "__init__" (pl env))
      callWith p3 f first (backTo p3 (starEach [e1] env)) []))
    (hsw : ∀ env : Env, swapsWith (.Call (.Attribute (.Call (.Name "super" p0) [] [] p1) "__init__" p2) [e1] [] p3) none p4.line env = pure false) :
    FnOk P w K mg base CX (k + 1) f (PySem.W.fnX name qual params (supRow p0 p1 p2 p3 p4 e1 :: rest) scope [("__class__", cc)] .none .none doc pm none (.ref cda) ct) ps sp := by
  refine ⟨len, fun A outer s H args us vs Q E hr e0 hb r hsp => ?_⟩
  have hl := len _ _ _ _ hsp
  have KX : K.In s.heap := e0.mod.kin.keeps fun b o e => (e0.bs b o e).1
  have lim : s.heap.NoLimit := e0.mod.nolimit.keeps fun b o e => (e0.bs b o e).1
  have hkc : scope.names.lookup ("__class__" : Str) = some .free := S.frk _ (List.mem_singleton.mpr rfl)
  refine PySem.ks_codeAny_call_defAt (fd := PySem.W.fnX name qual params (supRow p0 p1 p2 p3 p4 e1 :: rest) scope [("__class__", cc)] .none .none doc pm none (.ref cda) ct) (body := supRow p0 p1 p2 p3 p4 e1 :: rest) (binds := ps.zip us) hr.depth (KX _ _ lk) rfl lim
    (PySem.W.codeRec_of KX hcd) rfl hb S.nocell (fun ⟨n, _⟩ hy => S.par n (List.of_mem_zip hy).1) (fun h₁ hns kp => ?_) S.co S.gen S.kind
  obtain ⟨a, C, ta, t, hv0, hexo, TC, hmro, hsup, hsubV, hPA, hPS, hq⟩ := hbody A outer s H vs Q E (hr.deeper _) hsp
  have bcc : base.get? cc = some ⟨cl, cld, .cell (some (.ref D)), csl⟩ := e0.mod.kin _ _ hcell
  have CC : CellsAt [(("__class__" : Str), cc)] ["__class__"] [none] s.heap H := by
    refine ⟨rfl, fun y c e => ?_, fun x y c e1 e2 => ?_, fun i y hi => ?_⟩
    · have : c = cc := by
        simp only [List.lookup] at e
        split at e
        · exact (Option.some.inj e).symm
        · cases e
      subst this
      exact ⟨(e0.bs _ _ bcc).2, _, _, KX _ _ hcell, rfl⟩
    · simp only [List.lookup] at e1 e2
      split at e1
      · rename_i h1
        split at e2
        · rename_i h2
          rw [beq_iff_eq] at h1 h2
          rw [h1, h2]
        · cases e2
      · cases e1
    · have : i = 0 ∧ y = "__class__" := by
        cases i with
        | zero => simp at hi; exact ⟨rfl, hi.symm⟩
        | succ i => simp at hi
      obtain ⟨rfl, rfl⟩ := this
      exact ⟨cc, by simp [List.lookup], fun v hv => by simp at hv⟩
  have I : Inv (ncx CX P w K mg base N (supNF name qual params (supRow p0 p1 p2 p3 p4 e1 :: rest) scope cc cda) f A outer s H E) [] (startF N vs [none]) H { s with heap := h₁, toks := s.toks + (ps.zip us).length } :=
    inv_startN (F := supNF name qual params (supRow p0 p1 p2 p3 p4 e1 :: rest) scope cc cda) S hr.hd e0 hl r CC hns kp
  have KX1 : K.In h₁ := fun b o e => kp b o (KX b o e)
  obtain ⟨oD, hD1, hD2⟩ : ∃ oD, h₁.get? D = some oD ∧ oD.data = .cls cdD := by
    unfold PySem.W.clsIn at hD
    split at hD
    · rename_i c d cd' sl ho
      cases hD
      exact ⟨_, KX1 _ _ ho, rfl⟩
    · cases hD
  have ndP : ps.Nodup := by
    have q := S.nd.sublist (List.take_sublist (ps.length + 1) N)
    rw [show N.take (ps.length + 1) = ps ++ [("__class__" : Str)] from S.pre] at q
    exact (List.nodup_append.mp q).1
  obtain ⟨u0, hu0, ru0⟩ := r.get hv0
  obtain rfl : u0 = Value.ref a := ru0
  obtain ⟨t1, hga⟩ := exo_at I.hok hexo
  have hint : interactive (envF (supNF name qual params (supRow p0 p1 p2 p3 p4 e1 :: rest) scope cc cda) f s.heap.objs.size) = false := by
    have hk := S.kind
    unfold interactive
    simp [Env.blockKind, hk]
  refine PySem.ks_wpAt_execs_cons (PySem.ks_wpAt_Expr_any (PySem.ks_wpAt_MethodCall (PySem.ks_wpAt_super_base (ar := ar) hks hkc (by decide +kernel) rfl (KX1 _ _ lk) rfl hp rfl (KX1 _ _ hcode) rfl hvs hfile htop ?_) (he _)) hint (hsw _))
  obtain ⟨mb, hb1, hb2⟩ := e0.mod.blt
  have kb : ∀ b o, base.get? b = some o → h₁.get? b = some o := fun b o e => kp b o (e0.bs b o e).1
  refine PySem.W.ks_loadName_global S.kind hks (Calls.loadGlobal_builtin (e0.mod.glob.keeps kb) hsuper (hb1.keeps kb) ((hb2 _ (by decide)).trans hboot) ⟨rfl, ?_⟩)
  refine wpAny_loadName_free S.kind hkc rfl ⟨_, KX1 _ _ hcell, rfl⟩ ?_
  refine wpAny_loadName_local S.kind (S.par _ (List.mem_of_getElem? hps)) hns (zip_look ndP hps hu0) ?_
  refine PySem.ks_wpAny_isType_cls hD1 hD2 ⟨rfl, ?_⟩
  refine PySem.ks_wpAny_call_super hD1 hD2 hga rfl (fun c e => by cases e) (PySem.W.looks_mroIn KX1 hmro) (fun h2 eso k2 => ?_)
  have I2 : Inv (ncx CX P w K mg base N (supNF name qual params (supRow p0 p1 p2 p3 p4 e1 :: rest) scope cc cda) f A outer s H E) [] (startF N vs [none]) H { s with heap := h2, toks := s.toks + (ps.zip us).length } := I.kept k2
  have KX2 : K.In h2 := fun b o e => k2 b o (KX1 b o e)
  cases hcC : PySem.W.clsIn K C with
  | none => unfold PySem.W.ks_superIn at hsup; rw [hcC] at hsup; cases hsup
  | some cd =>
  unfold PySem.W.ks_superIn at hsup
  rw [hcC] at hsup
  have hga2 := k2 _ _ hga
  have INS : PySem.W.InstAt h2 a { cls := .ref C, dict := none, data := .fields #[.ref t1, .none, .none, .none, .bool false, .none] } C none := ⟨hga2, rfl, rfl, trivial⟩
  have hI : PySem.W.Looks (model P w) h2 (isInstance (.ref a) (.type "ValueError")) true := INS.type.andThen (PySem.W.looks_subIn KX2 hsubV)
  refine PySem.W.kxs_getMethod PySem.W.kxs_ValueError eso (PySem.W.looks_opaque KX2 hop) (l₀ := cd.mro) (fun A Q E s k q => wpAny_bind ((PySem.W.looks_clsIn KX2 hcC) A _ E s k (wpAny_pure q))) rfl KX2 hsup hI (PySem.W.ks_ne KX2 INS hcC) (by decide +kernel) ?_
  have I3 : Inv (ncx CX P w K mg base N (supNF name qual params (supRow p0 p1 p2 p3 p4 e1 :: rest) scope cc cda) f A outer s H E) [] (startF N vs [none]) H { s with heap := h2.push (PySem.W.kxs_mw "ValueError.__init__" a), toks := s.toks + (ps.zip us).length + 1 } := I2.kept fun b o e => Heap.get?_push_of_some _ e
  have hu : (h2.push (PySem.W.kxs_mw "ValueError.__init__" a)).get? h2.objs.size = some (PySem.W.kxs_mw "ValueError.__init__" a) := Heap.get?_push_at rfl rfl
  have hfree : H h2.objs.size = none := I2.hok.fresh (Nat.le_refl _)
  have I4 : Inv (ncx CX P w K mg base N (supNF name qual params (supRow p0 p1 p2 p3 p4 e1 :: rest) scope cc cda) f A outer s H E) [(h2.objs.size, PySem.W.kxs_mw "ValueError.__init__" a)] (startF N vs [none]) H { s with heap := h2.push (PySem.W.kxs_mw "ValueError.__init__" a), toks := s.toks + (ps.zip us).length + 1 } :=
    I3.pins_of fun p hp => by
      obtain rfl := List.mem_singleton.mp hp
      exact ⟨hu, hfree, fun z => absurd I2.lt (by rw [← z]; exact Nat.lt_irrefl _), I2.nofs (Nat.le_refl _), fun v z => by cases z⟩
  show wpAny _ _ (callWith p3 (.ref h2.objs.size) [] (backTo p3 (starEach [e1] _)) []) _ _ _
  rw [hst]
  refine PySem.W.kxs_callWith (i := "ValueError.__init__") (x := a) rfl (Calls.evalArgs_plain ?_)
  have hrun := hPA.run p3 _ _ _ _ _ I4 hq
  rw [hst] at hrun
  refine thn hrun fun us' s4 ⟨ws, H1, I5, r5, hexo1, hws, hq1⟩ => ?_
  have hu5 : s4.heap.get? h2.objs.size = some (PySem.W.kxs_mw "ValueError.__init__" a) := (I5.pin (h2.objs.size, PySem.W.kxs_mw "ValueError.__init__" a) (List.mem_append_right _ (List.mem_singleton.mpr rfl))).1
  refine ⟨hu5, ?_⟩
  obtain ⟨nm, q9, N9, bs, bm, sn, sub, ab, col, dd, k0, k1, k2', k3, k5, hC, hbm⟩ := TC.cls
  obtain ⟨t2, hga5⟩ := exo_at I5.hok hexo1
  have hC5 := I5.kIn _ _ hC
  have hus : us'.length ≤ sizeLine := by
    rw [← Paired.length r5, sizeLine_eq]
    omega
  obtain ⟨h5, g5, d5, tk5, os5⟩ := s4
  show wpAny _ _ (call (.ref h2.objs.size) ([] ++ us')) _ _ _
  rw [List.nil_append]
  refine wpAny_call (codeAny_of_tree ?_)
  show wpAny _ _ (callAny (.ref h2.objs.size) ⟨us', []⟩) _ _ _
  simp only [callAny]
  refine wpAny_bind (wpAny_load hu5 ?_)
  simp only [PySem.W.kxs_mw, show (Value.type "method-wrapper" == Value.type "method" || Value.type "method-wrapper" == Value.type "builtin_function_or_method" || Value.type "method-wrapper" == Value.type "method-wrapper") = true by decide, if_true]
  refine PySem.W.KFB.if_so (by decide) ?_
  refine wpAny_bind (PySem.W.check_bound_init PySem.F.excBase_ValueError.toExcCallFacts hC5 hga5 rfl ?_)
  refine wpAny_bind (wpAny_pure (wpAny_pure ?_))
  refine ⟨plainId_quiet PySem.F.excBase_ValueError.init.plain _, codeAny_builtin PySem.F.excBase_ValueError.initEntry ?_⟩
  refine PySem.W.exc_init_tree (cls := .ref C) (t0 := t2) (dv := none) (c2 := .none) (c3 := .none) (b4 := .bool false) hga5 hus (fun h6 k6 e6 _ => ?_)
  have J := I5.write (t' := tk5) (x := a) (e := a) (o := exo a C none) (by rw [hexo1]; exact True.intro) (.inl rfl) k6 ⟨_, e6⟩ (exo_ok e6)
  have eu : upd H1 a (exo a C none) = H1 := by
    funext b
    by_cases hb : b = a
    · rw [hb, upd_same, hexo1]
    · rw [upd_ne hb]
  rw [eu] at J
  have J0 := inv_unpin J
  refine wpAt_of_wpAny ?_
  refine wpAny_mono (hPS.run [] _ _ H1 _ J0 hq1) (fun fl s' hs => ?_) fun e s' hs => hs
  have fin : ∀ {σ' : L2.St} {H' : Hp} {v : V} {u : Value}, Inv (ncx CX P w K mg base N (supNF name qual params (supRow p0 p1 p2 p3 p4 e1 :: rest) scope cc cda) f A outer s H E) [] σ' H' s' → L2.RelV v u → Q v H' → CE outer P w H s Q u s' :=
    fun {σ' H' v u} J rv q => ⟨v, H', J.os, J.bare, J.base, J.hok, rv, q⟩
  cases fl with
  | ret u =>
    obtain ⟨v, σ', H', J, rv, q⟩ := hs
    exact fin J rv q
  | next =>
    obtain ⟨σ', H', J, q⟩ := hs
    exact fin (v := V.non) (u := Value.none) J rfl q
  | brk =>
    obtain ⟨_, _, _, q⟩ := hs
    exact False.elim q
  | cont =>
    obtain ⟨_, _, _, q⟩ := hs
    exact False.elim q
end El

set_option Elab.async false
set_option linter.all false
set_option maxRecDepth 100000
set_option maxHeartbeats 4000000
/-! Own words: what the written part says of an own exception class, isinstance of what an except clause holds. -/
namespace El
open PySem PySem.Spec PyProof.Rows L2 NdefX
/-- isinstance(e, c), e the exception that the suite holds, with a dict -/
def rIsX (K : PySem.W.Frag) (cls : Value) (d : Option Addr) (a : Addr) : List V → Hp → VK → Prop := fun xs H Q => ∃ (D dd : Addr) (fs : List (Str × V)) (c : V) (cv : Value) (b : Bool), xs = [.ref a, c] ∧ cls = .ref D ∧ d = some dd ∧ H dd = some (.xd fs) ∧ ExcC K D ∧ (∀ u, RelV c u → u = cv) ∧ PySem.W.kitOne K (.ref D) cv = some b ∧ Q (.bl b) H
theorem call_isX {X : Cx} {a : Addr} {oe : Obj} {cls : Value} {d : Option Addr} {pn : List (Addr × Obj)} (hz : Zc cls d oe) (hf : ∃ vs, oe.data = .fields vs) : CallR (X.suite a ((a, oe) :: pn)) (.builtin "isinstance") (rIsX X.K cls d a) := by
  intro pins s σ H xs us Q I r h
  obtain ⟨D, dd, fs, c, cv, b, rfl, rfl, rfl, ea, C, hcv, e, q⟩ := h
  cases r with
  | cons rx rr =>
    cases rr with
    | cons rt rr =>
      cases rr
      cases rx
      have ec := hcv _ rt
      subst ec
      obtain ⟨hget, _⟩ := I.pin (a, oe) (List.mem_append.mpr (.inl List.mem_cons_self))
      obtain ⟨vs, hv⟩ := hf
      have hx : ObjOk X.prog X.w H s.heap dd (.xd fs) := I.hok dd _ ea
      obtain ⟨mA, hns, hr⟩ := hx
      obtain ⟨od, ho, hl⟩ := lookIn_ns hns
      have J : PySem.W.InstAt s.heap a oe D (some od) := ⟨hget, hz.1, by unfold PySem.W.notCls; rw [hv] <;> rfl, by rw [hz.2]; exact ho⟩
      obtain ⟨cdD, hcD, _⟩ := PySem.W.any_some C.hd
      exact PySem.W.kia_one (PySem.W.kitx_exc (by rw [hcD]; rfl) C.hg C.hk C.hs C.ha C.hn C.ht C.hm) I.kIn J e (fun z => nomatch z) fun tk => ⟨.bl b, H, I.kept (t' := tk) fun _ _ z => z, rfl, q⟩
/-- an own exception class with its own __init__ -/
structure ExK (K : PySem.W.Frag) (C fI : Addr) (fields : List Str) : Prop where
  oex : OexC K C
  sup : PySem.W.ks_superIn K C C "__init__" = some (some (.builtin "ValueError.__init__"))
  subV : PySem.W.subIn K (.ref C) (.type "ValueError") = some true
  mro : PySem.W.mroIn K C (.ref C) = some true
  iC : PySem.W.findIn K (.ref C) "__init__" = some (some (.ref fI))
  tI : PySem.W.typeIn K (.ref fI) = some (.type "function")
  no : ∀ f ∈ fields, PySem.W.findIn K (.ref C) f = some none
  xf : XfC K C
  is : ExcC K C
/-- what a suite that catches it must know -/
structure ExV (K : PySem.W.Frag) (C : Addr) (fields : List Str) : Prop where
  no : ∀ f ∈ fields, PySem.W.findIn K (.ref C) f = some none
  xf : XfC K C
  is : ExcC K C
/-- the i-th def of the class body -/
def mthS (s : Stmt) (i : Nat) : Stmt := match s with
  | .ClassDef _ _ _ b _ _ _ _ _ _ _ => b.getD i (.Pass ⟨0, 0, 0, 0⟩)
  | _ => .Pass ⟨0, 0, 0, 0⟩
/-- the same, from what the written part answers -/
theorem exk_mk {K : PySem.W.Frag} {C fI N : Addr} {fields : List Str} {nm q : Str} {bs bm : List Value} {sn : List Str} {sub : List Value} {ab : Bool} {col : Option Bool} {dd : Option Addr} {k0 k1 k2 k3 k5 : Option Value}
    (cls : K.lookup C = some (excClassObj nm q C N bs bm true sn sub ab col dd k0 k1 k2 k3 k5 "ValueError.__new__")) (ref : PySem.HandSPX.refsVE bm = true)
    (sa : PySem.W.findIn K (.ref C) "__setattr__" = some (some (.builtin "object.__setattr__"))) (exC : PySem.W.subIn K (.ref C) (.type "BaseException") = some true) (tyC : PySem.W.typeIn K (.ref C) = some (.type "type")) (kC : PySem.W.keepIn K (.ref C) = true)
    (sup : PySem.W.ks_superIn K C C "__init__" = some (some (.builtin "ValueError.__init__"))) (subV : PySem.W.subIn K (.ref C) (.type "ValueError") = some true) (mro : PySem.W.mroIn K C (.ref C) = some true)
    (iC : PySem.W.findIn K (.ref C) "__init__" = some (some (.ref fI))) (tI : PySem.W.typeIn K (.ref fI) = some (.type "function")) (no : ∀ f ∈ fields, PySem.W.findIn K (.ref C) f = some none)
    (ga : PySem.W.findIn K (.ref C) "__getattribute__" = some (some (.builtin "BaseException.__getattribute__"))) (gg : PySem.W.findIn K (.ref C) "__getattr__" = some none) (hd : PySem.W.hasDictIn K C = true)
    (hcl : PySem.W.findIn K (.ref C) "__class__" = some (some (.builtin "object.__class__"))) (hn : PySem.W.specialIn K (.builtin "object.__class__") "__get__" = some (some (.builtin "getset_descriptor.__get__"))) (ht : PySem.W.takesIn K (.builtin "object.__class__") = some true) (hm : PySem.W.mroIn K C (.type "object") = some true) : ExK K C fI fields :=
  ⟨⟨⟨nm, q, N, bs, bm, sn, sub, ab, col, dd, k0, k1, k2, k3, k5, cls, ref⟩, sa, exC, tyC, kC⟩, sup, subV, mro, iC, tI, no, ⟨ga, gg, exC, hd⟩, ⟨ga, gg, exC, hd, hcl, hn, ht, hm⟩⟩

/-! ### an own exception's __init__, by what it keeps -/
def spE (C : Addr) (ok : List V → Prop) (fs : List V → List (Str × V)) : Sp := fun vs H Q _ => ∃ (a : Addr) (ws : List V), vs = .ref a :: ws ∧ ok ws ∧ H a = some (exo a C none) ∧
  ∀ (dx : Addr) (H' : Hp), H dx = none → dx ≠ a → H' a = some (exo a C (some dx)) → H' dx = some (exd dx (fs ws)) → (∀ b, b ≠ a → b ≠ dx → H' b = H b) → Q .non H'
theorem mk_spE {C : Addr} {ok : List V → Prop} {fs : List V → List (Str × V)} {vs : List V} {H1 : Hp} {Q : XK} (hl : vs.length ≤ 1000) (ho : ok vs) (hq : ∀ d, H1 d = none → Q (.ref C) (some d) (upd H1 d (.xd (fs vs)))) :
    vs.length ≤ 1000 ∧ ∀ a, H1 a = none → spE C ok fs (.ref a :: (vs ++ [])) (upd H1 a (exo a C none))
      (fun v H2 => v = .non ∧ ∃ (d : Addr) (fs : List (Str × V)), H2 a = some (exo a C (some d)) ∧ H2 d = some (exd d fs) ∧ H1 d = none ∧ Q (.ref C) (some d) (upd (del H2 a) d (.xd fs))) (fun _ _ _ => False) := by
  refine ⟨hl, fun a na => ⟨a, vs, by rw [List.append_nil], ho, upd_same, fun dx H' n ne e1 e2 hh => ⟨rfl, dx, fs vs, e1, e2, ?_, ?_⟩⟩⟩
  · rw [upd_ne ne] at n
    exact n
  · have nd : H1 dx = none := by rw [upd_ne ne] at n; exact n
    have e : upd (del H' a) dx (.xd (fs vs)) = upd H1 dx (.xd (fs vs)) := by
      funext b
      by_cases hb : b = dx
      · rw [hb, upd_same, upd_same]
      · rw [upd_ne hb, upd_ne hb]
        by_cases ha : b = a
        · rw [ha, del_same, na]
        · rw [del_ne ha, hh b ha hb, upd_ne ha]
    rw [e]
    exact hq dx nd
/-- the class, its __init__, ready for a raise -/
structure CalE (P : Program) (w : World) (K : PySem.W.Frag) (mg : Str → Option Value) (base : Heap) (k : Nat) (x : Str) (C f : Addr) (fd : FuncData) (ps : List Str) (ok : List V → Prop) (fs : List V → List (Str × V)) (fields : List Str) : Prop where
  G : FnOk P w K mg base CX0 k f fd ps (spE C ok fs)
  b : Binds K fd ps []
  X : ExK K C f fields
  m : mg x = some (.ref C)
/-- one store, the dict being new -/
theorem ost1 {a C : Addr} {H : Hp} {f : Str} {y : V} {Q : Hp → Prop} (ea : H a = some (exo a C none)) (q : ∀ dx H', H dx = none → dx ≠ a → H' a = some (exo a C (some dx)) → H' dx = some (exd dx [(f, y)]) → (∀ b, b ≠ a → b ≠ dx → H' b = H b) → Q H') :
    ∀ dx, H dx = none → dx ≠ a → Q (upd (upd H dx (exd dx [(f, y)])) a (exo a C (some dx))) := fun dx n ne =>
  q dx _ n ne upd_same (by rw [upd_ne ne, upd_same]) fun b h1 h2 => by rw [upd_ne h1, upd_ne h2]
end El

set_option Elab.async false
set_option linter.all false
set_option maxRecDepth 100000
/-! Own words: a text times an int, the text of an int. -/
namespace El
open PySem PySem.Spec PyProof.Rows L2
def repS (z : Str) (k : Int) : Str := if k < 1 then Str.empty else if (k == 1 || z.length == 0) = true then z else ⟨(List.replicate k.toNat z.cps).foldl (· ++ ·) #[]⟩
theorem foldl_cps : ∀ (n : Nat) (a b : Array Nat), ((List.replicate n b).foldl (· ++ ·) a).toList = a.toList ++ (List.replicate n b.toList).flatten
  | 0, a, b => by simp
  | n + 1, a, b => by
    rw [List.replicate_succ, List.foldl_cons, foldl_cps n, Array.toList_append, List.replicate_succ, List.flatten_cons, List.append_assoc]
theorem repS_cps (z : Str) (k : Int) : (repS z k).cps.toList = (List.replicate k.toNat z.cps.toList).flatten := by
  unfold repS
  split
  · rename_i h
    rw [show k.toNat = 0 by omega]
    rfl
  · split
    · rename_i h1 h
      rw [Bool.or_eq_true, beq_iff_eq, beq_iff_eq] at h
      rcases h with h | h
      · subst h
        simp
      · have : z.cps.toList = [] := List.eq_nil_of_length_eq_zero (by rw [Array.length_toList]; exact h)
        rw [this]
        simp
    · rw [foldl_cps]
      rfl
theorem repS1 {c : Nat} {k : Int} : (repS ⟨#[c]⟩ k).cps.toList = List.replicate k.toNat c := by
  rw [repS_cps]
  simp
theorem op_mulS {X : Cx} : OpR X (binaryOp .Mult) (fun x y H Q => ∃ (z : Str) (k : Int), x = .str z ∧ y = .int k ∧ k ≤ 1000 ∧ -1000 ≤ k ∧ z.length ≤ 1000 ∧ Q (.str (repS z k)) H) := by
  intro pins s σ H x y v u Q I rx ry h
  obtain ⟨z, k, rfl, rfl, h1, h2, h3, q⟩ := h
  obtain ⟨t, rfl⟩ := rx
  obtain ⟨t', rfl⟩ := ry
  have e : (2 : Int) ^ 63 = 9223372036854775808 := by decide
  refine PySem.P.mul_str ?_ (fun n1 n2 => ?_) (fun n1 n2 => ?_) ?_
  · rw [e, decide_eq_false (by omega), decide_eq_false (by omega)]
    rfl
  · rw [e]
    have : ((9223372036854775808 : Int) - 1) / 1000 ≤ (9223372036854775808 - 1) / k := by
      refine Int.le_ediv_of_mul_le (by omega) ?_
      have : (9223372036854775808 - 1) / 1000 * k ≤ (9223372036854775808 - 1) / 1000 * 1000 := Int.mul_le_mul_of_nonneg_left h1 (by decide)
      refine Int.le_trans this (by decide)
    have : (1000 : Int) ≤ (9223372036854775808 - 1) / 1000 := by decide
    omega
  · have : z.length * k.toNat ≤ 1000 * 1000 := Nat.mul_le_mul h3 (by omega)
    show decide _ = false
    refine decide_eq_false ?_
    rw [sizeLine_eq]
    omega
  · unfold repS at q
    split
    · rename_i c
      rw [if_pos c] at q
      exact ⟨by decide, .str _, H, I.tok _, ⟨_, rfl⟩, q⟩
    · rename_i c
      rw [if_neg c] at q
      split
      · rename_i c2
        rw [if_pos c2] at q
        exact ⟨.str _, H, I, ⟨_, rfl⟩, q⟩
      · rename_i c2
        rw [if_neg c2] at q
        refine ⟨?_, .str _, H, I.tok _, ⟨_, rfl⟩, q⟩
        have e2 := foldl_cps k.toNat #[] z.cps
        have e3 : ((List.replicate k.toNat z.cps).foldl (· ++ ·) #[]).size = k.toNat * z.length := by
          rw [← Array.length_toList, e2, List.length_append]
          simp
          rfl
        show ((List.replicate k.toNat z.cps).foldl (· ++ ·) #[]).size ≤ sizeLine
        rw [e3, sizeLine_eq]
        have : k.toNat * z.length ≤ 1000 * 1000 := Nat.mul_le_mul (by omega) h3
        omega
/-- times, of texts too -/
def mulSM : R2 := fun x y H Q => match x, y with
  | .str z, .int k => k ≤ 1000 ∧ -1000 ≤ k ∧ z.length ≤ 1000 ∧ Q (.str (repS z k)) H
  | _, _ => mulM x y H Q
theorem op_mulSM {X : Cx} : OpR X (binaryOp .Mult) mulSM := opwk (OpR.or op_mulS op_mulM) fun x y H Q q => by
  unfold mulSM at q
  split at q
  · exact .inl ⟨_, _, rfl, rfl, q⟩
  · exact .inr q
/-- the signs of a number's text -/
theorem int_digits {i : Int} (h : 0 ≤ i) : ∀ c ∈ ((toString i : String) : Str).cps.toList, 48 ≤ c ∧ c ≤ 57 := by
  intro c hm
  by_cases hk : c ≠ 45 ∧ (c < 48 ∨ 57 < c)
  · exact absurd hm (int_text_free' c hk i)
  · by_cases h45 : c = 45
    · exfalso
      subst h45
      obtain ⟨n, rfl⟩ := Int.eq_ofNat_of_zero_le h
      rw [signs_ofString] at hm
      obtain ⟨ch, hc, e⟩ := List.mem_map.mp hm
      have hd : ch.isDigit = true := by
        have : ch ∈ (Nat.repr n).toList := hc
        exact Nat.isDigit_of_mem_toDigits (b := 10) (n := n) (by decide) (by decide) (by simpa [Nat.repr] using this)
      have := digit_range hd
      omega
    · omega
theorem int_text_ne (i : Int) : ((toString i : String) : Str).cps.toList ≠ [] := by
  rw [signs_ofString]
  intro h
  have h := List.map_eq_nil_iff.mp h
  have nn : ∀ n : Nat, (Nat.repr n).toList ≠ [] := fun n e => by
    have : Nat.toDigits 10 n = [] := by simpa [Nat.repr] using e
    exact Nat.toDigits_ne_nil this
  cases i with
  | ofNat n => exact nn n h
  | negSucc n =>
    have : ("-" ++ Nat.repr (n + 1)).toList = [] := h
    simp at this
end El

set_option Elab.async false
set_option linter.all false
set_option maxRecDepth 100000
set_option maxHeartbeats 4000000
/-! Own words: operators of own classes, static methods. -/
namespace El
open PySem PySem.Spec PyProof.Rows L2
theorem cmpBack_of {X : Cx} {pins : List (Addr × Obj)} {σ : L2.St} {Q : VK} {u : Value} {s' : Shared} (h : EP X pins σ Q u s') : PySem.W.CmpBack (EP X pins σ Q) u s' := by
  obtain ⟨v, H', I, r, q⟩ := id h
  cases v with
  | non => cases (show u = Value.none from r); exact h
  | bl b => cases (show u = Value.bool b from r); exact h
  | int i => obtain ⟨t, e⟩ := (show ∃ t, u = Value.int i t from r); subst e; exact h
  | str i => obtain ⟨t, e⟩ := (show ∃ t, u = Value.str i t from r); subst e; exact h
  | byt i => obtain ⟨t, e⟩ := (show ∃ t, u = Value.bytes i t from r); subst e; exact h
  | flt i => obtain ⟨t, e⟩ := (show ∃ t, u = Value.float i t from r); subst e; exact h
  | ref a => cases (show u = Value.ref a from r); exact h
  | ty n => cases (show u = Value.type n from r); exact h
/-- an own class's method for an operator -/
structure OpC (K : PySem.W.Frag) (C f : Addr) (op : Operator) : Prop where
  sf : PySem.W.selfFirst K C = true
  at_ : PySem.W.findIn K (.ref C) (PySem.dunder op.info.2) = some (some (.ref f))
  fn : PySem.W.isFn K (.ref f) = true
/-- .. with a value of the built-in type T on the right -/
structure OpT (K : PySem.W.Frag) (C f : Addr) (op : Operator) (T : String) : Prop where
  c : OpC K C f op
  hr : ∃ rc, PySem.W.findIn K (.ref C) (PySem.dunderR op.info.2) = some rc ∧ (rc = none ∨ ∃ g : Addr, rc = some (.ref g))
  h1 : ∃ fo, PySem.W.findIn K (.type T) (PySem.dunder op.info.2) = some fo
  h2 : ∃ ro, PySem.W.findIn K (.type T) (PySem.dunderR op.info.2) = some ro
  sub : PySem.W.subIn K (.type T) (.ref C) = some false
structure InvC (K : PySem.W.Frag) (C f : Addr) : Prop where
  at_ : PySem.W.findIn K (.ref C) "__invert__" = some (some (.ref f))
  fn : PySem.W.isFn K (.ref f) = true
section
variable {X : Cx} {CX : CXT} {k : Nat} {C f : Addr} {fd : FuncData} {ps : List Str} {sp : Sp} {E : XK} {op : Operator}
/-- a op b, both of the class at C -/
def rOwn (C : Addr) (sp : Sp) (E : XK) : R2 := fun x y H Q => ∃ a b dx fs dy gs, x = .ref a ∧ y = .ref b ∧ H a = some (.ins C dx fs) ∧ H b = some (.ins C dy gs) ∧ sp [.ref a, .ref b] H Q E
theorem op_own (c : OpC X.K C f op) (F : FnOk X.prog X.w X.K X.mg X.base CX k f fd ps sp) (hr : Room k X.A) (hb : Binds X.K fd ps []) (hx : Passes CX X E) : OpR X (binaryOp op) (rOwn C sp E) := by
  intro pins s σ H x y v u Q I rx ry h
  obtain ⟨a, b, dx, fs, dy, gs, rfl, rfl, ea, eb, q⟩ := h
  obtain rfl : v = Value.ref a := rx
  obtain rfl : u = Value.ref b := ry
  obtain ⟨m, fr⟩ := I.fr
  obtain ⟨mA, O, _⟩ := ins_get I.hok ea
  obtain ⟨od, J, _⟩ := O.look
  obtain ⟨mB, O2, _⟩ := ins_get I.hok eb
  obtain ⟨od2, J2, _⟩ := O2.look
  refine PySem.W.binop_K fr I.ok.mod.kin J J2.type c.sf c.at_ c.fn ?_
  refine wpAny_mono (run_fn (us := [.ref a, .ref b]) (vs := [.ref a, .ref b]) (ds := []) (dvs := []) F hr hb .nil hx I (.cons rfl (.cons rfl .nil)) q) (fun u' s' h' => cmpBack_of h') fun _ _ z => z
/-- a op n, n an int -/
def rOwnI (C : Addr) (sp : Sp) (E : XK) : R2 := fun x y H Q => ∃ a dx fs i, x = .ref a ∧ y = .int i ∧ H a = some (.ins C dx fs) ∧ sp [.ref a, .int i] H Q E
theorem op_ownI (c : OpT X.K C f op "int") (F : FnOk X.prog X.w X.K X.mg X.base CX k f fd ps sp) (hr : Room k X.A) (hb : Binds X.K fd ps []) (hx : Passes CX X E) : OpR X (binaryOp op) (rOwnI C sp E) := by
  intro pins s σ H x y v u Q I rx ry h
  obtain ⟨a, dx, fs, i, rfl, rfl, ea, q⟩ := h
  obtain rfl : v = Value.ref a := rx
  obtain ⟨t, rfl⟩ := ry
  obtain ⟨m, fr⟩ := I.fr
  obtain ⟨mA, O, _⟩ := ins_get I.hok ea
  obtain ⟨od, J, _⟩ := O.look
  obtain ⟨rc, hr1, hr2⟩ := c.hr
  obtain ⟨fo, h1⟩ := c.h1
  obtain ⟨ro, h2⟩ := c.h2
  refine PySem.W.ksp_binT fr I.ok.mod.kin J (T := "int") rfl c.c.sf c.c.at_ c.c.fn hr1 hr2 h1 h2 c.sub ?_
  refine wpAny_mono (run_fn (us := [.ref a, .int i t]) (vs := [.ref a, .int i]) (ds := []) (dvs := []) F hr hb .nil hx I (.cons rfl (.cons ⟨t, rfl⟩ .nil)) q) (fun u' s' h' => cmpBack_of h') fun _ _ z => z
/-- ~a -/
theorem un_own (c : InvC X.K C f) (F : FnOk X.prog X.w X.K X.mg X.base CX k f fd ps sp) (hr : Room k X.A) (hb : Binds X.K fd ps []) (hx : Passes CX X E) : UnR X (unaryOp .Invert) (fun x H Q => ∃ a dx fs, x = .ref a ∧ H a = some (.ins C dx fs) ∧ sp [.ref a] H Q E) := by
  intro pins s σ H x v Q I rx h
  obtain ⟨a, dx, fs, rfl, ea, q⟩ := h
  obtain rfl : v = Value.ref a := rx
  obtain ⟨m, fr⟩ := I.fr
  obtain ⟨mA, O, _⟩ := ins_get I.hok ea
  obtain ⟨od, J, _⟩ := O.look
  exact PySem.W.ksp_inv fr I.ok.mod.kin J c.at_ c.fn (run_fn (us := [.ref a]) (vs := [.ref a]) (ds := []) (dvs := []) F hr hb .nil hx I (.cons rfl .nil) q)
end

section
variable {X : Cx} {CX : CXT} {k : Nat} {C f : Addr} {fd : FuncData} {ps : List Str} {sp : Sp} {E : L2.St → XK} {op : Operator} {a b : Expr} {ta tb : TE} {pos : Pos}
/-- .. what it lets out being taken where it stands -/
def tOwnS (C : Addr) (sp : Sp) (E : L2.St → XK) (ta tb : TE) : TE := fun σ H Q => ta σ H fun x H1 => tb σ H1 fun y H2 => ∃ a b dx fs dy gs, x = .ref a ∧ y = .ref b ∧ H2 a = some (.ins C dx fs) ∧ H2 b = some (.ins C dy gs) ∧ sp [.ref a, .ref b] H2 Q (E σ)
theorem pe_bopS (c : OpC X.K C f op) (F : FnOk X.prog X.w X.K X.mg X.base CX k f fd ps sp) (hr : Room k X.A) (hb : Binds X.K fd ps []) (hx : ∀ σ, PassesAt CX X σ (E σ)) (ha : PE X a ta) (hb2 : PE X b tb) : PE X (.BinOp a op b pos) (tOwnS C sp E ta tb) := by
  refine ⟨fun pins s σ H Q I h => ?_⟩
  refine wpAny_BinOp (thn (ha.run pins s σ H _ I h) fun v s1 ⟨x, H1, I1, rx, q1⟩ => thn (hb2.run pins s1 σ H1 _ I1 q1) fun u s2 ⟨y, H2, I2, ry, a, b, dx, fs, dy, gs, ex, ey, ea, eb, q⟩ => ?_)
  subst ex ey
  obtain rfl : v = Value.ref a := rx
  obtain rfl : u = Value.ref b := ry
  obtain ⟨m, fr⟩ := I2.fr
  obtain ⟨mA, O, _⟩ := ins_get I2.hok ea
  obtain ⟨od, J, _⟩ := O.look
  obtain ⟨mB, O2, _⟩ := ins_get I2.hok eb
  obtain ⟨od2, J2, _⟩ := O2.look
  refine PySem.W.binop_K fr I2.ok.mod.kin J J2.type c.sf c.at_ c.fn ?_
  refine wpAny_mono (run_fnS (us := [.ref a, .ref b]) (vs := [.ref a, .ref b]) F hr hb (hx σ) I2 (.cons rfl (.cons rfl .nil)) q) (fun u' s' h' => cmpBack_of h') fun _ _ z => z
end

/-! ### static methods, by the class's name -/
structure SMet (K : PySem.W.Frag) (C : Addr) (mc : Value) (m : Str) (p g : Addr) : Prop where
  at_ : PySem.W.findCls K (.ref C) mc m = some (.get (.builtin "staticmethod.__get__") (.ref p) .none (.ref C))
  rc : ∃ rest, PySem.W.recIn K p "staticmethod" = some (.ref g :: rest)
  kp : PySem.W.keepIn K (.ref g) = true
section
variable {X : Cx} {CX : CXT} {k : Nat} {C p g : Addr} {mc : Value} {fd : FuncData} {ps : List Str} {sp : Sp} {E : XK} {o e : Expr} {es : List Expr} {m : Str} {pos apos : Pos} {ta : TE} {t : TA} {pl : Sem Bool}
def tSM (C : Addr) (sp : Sp) (E : XK) (ta : TE) (t : TA) : TE := fun σ H Q => ta σ H fun x H1 => x = .ref C ∧ t σ H1 fun vs H2 => sp vs H2 Q E
theorem getsm_ok {pins : List (Addr × Obj)} {σ : L2.St} {H : Hp} {s : Shared} {A : Around} {E : Value → Shared → Prop} {Q : Value × List Value → Shared → Prop} (I : Inv X pins σ H s) (r : ClX.CRead X.K C mc) (c : SMet X.K C mc m p g)
    (h : ∀ s', Inv X pins σ H s' → Q (.ref g, []) s') : wpAny (model X.prog X.w) A (getMethod (.ref C) m pl) Q E s := by
  obtain ⟨rest, hp⟩ := c.rc
  refine PySem.W.method_cls I.kIn r.ga ?_
  refine PySem.W.cls_bind I.kIn r.rd c.at_ ?_
  exact wpAny_call (PySem.W.sm_get (s := { s with toks := s.toks + 1 }) I.kIn hp (PySem.W.handed_on rfl (h _ (I.tok _))))
theorem pe_smeth (he : PE X o ta) (r : ClX.CRead X.K C mc) (c : SMet X.K C mc m p g) (F : FnOk X.prog X.w X.K X.mg X.base CX k g fd ps sp) (hr : Room k X.A) (hb : Binds X.K fd ps []) (hx : Passes CX X E) (ha : PA X (e :: es) t)
    (hst : starEach (e :: es) X.env = (false, eval e X.env) :: starEach es X.env := by rfl) (hpl : (backTo pos (starEach es X.env)).any (·.1) = false := by rfl)
    (ht : eval (.Call (.Attribute o m apos) (e :: es) [] pos) X.env = (do
      let ov ← eval o X.env
      standAt apos.atName
      let (f, first) ← holding [ov] (getMethod ov m pl)
      callWith pos f first (backTo pos (starEach (e :: es) X.env)) (backToKw pos (keywordEach [] X.env))) := by rfl) :
    PE X (.Call (.Attribute o m apos) (e :: es) [] pos) (tSM C sp E ta t) := by
  refine ⟨fun pins s σ H Q I h => ?_⟩
  refine PySem.W.methodCall_KW (pl := pl) (thn (he.run pins s σ H _ I h) fun u s1 ⟨x, H1, I1, rx, ex, q⟩ => ?_) ht
  subst ex
  obtain rfl : u = Value.ref C := rx
  refine getsm_ok I1 r c fun s2 I2 => ?_
  refine PySem.W.callWith_K (h₀ := X.base) I2.ok.mod.kin c.kp (thn (ha.run pos pins s2 σ H1 _ I2 q) fun us s3 ⟨vs, H2, I3, rv, q2⟩ => ⟨I3.kIn, ?_⟩) hst hpl
  have hl : sp (vs ++ []) H2 Q E := by rw [List.append_nil]; exact q2
  exact run_fn (ds := []) (dvs := []) F hr hb .nil hx I3 rv hl
theorem pe_smeth0 (he : PE X o ta) (r : ClX.CRead X.K C mc) (c : SMet X.K C mc m p g) (F : FnOk X.prog X.w X.K X.mg X.base CX k g fd ps sp) (hr : Room k X.A) (hb : Binds X.K fd ps []) (hx : Passes CX X E)
    (ht : eval (.Call (.Attribute o m apos) [] [] pos) X.env = (do
      let ov ← eval o X.env
      standAt apos.atName
      let (f, first) ← holding [ov] (getMethod ov m pl)
      callWith pos f first (backTo pos (starEach [] X.env)) (backToKw pos (keywordEach [] X.env))) := by rfl) :
    PE X (.Call (.Attribute o m apos) [] [] pos) (tSM C sp E ta tNil) := by
  refine ⟨fun pins s σ H Q I h => ?_⟩
  refine PySem.W.methodCall_KW (pl := pl) (thn (he.run pins s σ H _ I h) fun u s1 ⟨x, H1, I1, rx, ex, q⟩ => ?_) ht
  subst ex
  obtain rfl : u = Value.ref C := rx
  refine getsm_ok I1 r c fun s2 I2 => ?_
  exact PySem.W.callWith_K0 I2.kIn c.kp (run_fn (us := []) (vs := []) (ds := []) (dvs := []) F hr hb .nil hx I2 .nil q)
end

/-! ### defs of own classes, ready to be called -/
structure CalB (P : Program) (w : World) (K : PySem.W.Frag) (mg : Str → Option Value) (base : Heap) (CX : CXT) (k : Nat) (f : Addr) (fd : FuncData) (ps : List Str) (sp : Sp) : Prop where
  G : FnOk P w K mg base CX k f fd ps sp
  b : Binds K fd ps []
structure CalI (P : Program) (w : World) (K : PySem.W.Frag) (mg : Str → Option Value) (base : Heap) (CX : CXT) (k : Nat) (x : Str) (C f : Addr) (fd : FuncData) (ps : List Str) (sp : Sp) : Prop extends CalB P w K mg base CX k f fd ps sp where
  mkc : Mk K C f
  m : mg x = some (.ref C)
structure CalS (P : Program) (w : World) (K : PySem.W.Frag) (mg : Str → Option Value) (base : Heap) (CX : CXT) (k : Nat) (C p : Addr) (m : Str) (f : Addr) (fd : FuncData) (ps : List Str) (sp : Sp) : Prop extends CalB P w K mg base CX k f fd ps sp where
  rd : ClX.CRead K C (.type "type")
  sm : SMet K C (.type "type") m p f
structure CalP (P : Program) (w : World) (K : PySem.W.Frag) (mg : Str → Option Value) (base : Heap) (CX : CXT) (k : Nat) (C p : Addr) (m : Str) (f : Addr) (fd : FuncData) (ps : List Str) (sp : Sp) : Prop extends CalB P w K mg base CX k f fd ps sp where
  cl : Cls K C
  pr : PropOf K C m p f
structure CalO (P : Program) (w : World) (K : PySem.W.Frag) (mg : Str → Option Value) (base : Heap) (CX : CXT) (k : Nat) (C : Addr) (op : Operator) (f : Addr) (fd : FuncData) (ps : List Str) (sp : Sp) : Prop extends CalB P w K mg base CX k f fd ps sp where
  op : OpC K C f op
structure CalC (P : Program) (w : World) (K : PySem.W.Frag) (mg : Str → Option Value) (base : Heap) (CX : CXT) (k : Nat) (C f : Addr) (fd : FuncData) (ps : List Str) (sp : Sp) : Prop extends CalB P w K mg base CX k f fd ps sp where
  co : StX.CallO K C f

/-! ### the written part named (in comprehensions) -/
section
variable {X : Cx} {e : Expr} {es : List Expr} {f : Str} {pos p : Pos} {ta : TE} {t : TA}
theorem e_f (K : PySem.W.Frag) (he : PE X e ta) (hb : attributeBase e f X.env (eval e X.env) = eval e X.env := by rfl) (h : X.K = K := by rfl) : PE X (.Attribute e f pos) (tFld K ta f) := h ▸ pe_fld he hb
theorem e_cv (K : PySem.W.Frag) (he : PE X e ta) (hb : attributeBase e f X.env (eval e X.env) = eval e X.env := by rfl) (h : X.K = K := by rfl) : PE X (.Attribute e f pos) (ClX.tCVal K ta f) := h ▸ ClX.pe_cval he hb
end

/-! ### len of an own class -/
structure LenC (K : PySem.W.Frag) (C f : Addr) : Prop where
  at_ : PySem.W.findIn K (.ref C) "__len__" = some (some (.ref f))
  fn : PySem.W.isFn K (.ref f) = true
theorem call_lenO {X : Cx} {k : Nat} {C f : Addr} {fd : FuncData} {ps : List Str} {sp : Sp} (c : LenC X.K C f) (F : FnOk X.prog X.w X.K X.mg X.base CX0 k f fd ps sp) (hr : Room (k + 1) X.A) (hb : Binds X.K fd ps []) :
    CallR X (.builtin "len") (fun xs H Q => ∃ a dx fs, xs = [.ref a] ∧ H a = some (.ins C dx fs) ∧ sp [.ref a] H (fun v H' => ∃ n : Int, v = .int n ∧ 0 ≤ n ∧ n < 2 ^ 62 ∧ Q (.int n) H') E0) := by
  intro pins s σ H xs us Q I r h
  obtain ⟨a, dx, fs, rfl, ea, q⟩ := h
  obtain rfl := Vals.ref1 r
  obtain ⟨m, fr⟩ := I.fr
  obtain ⟨mA, O, _⟩ := ins_get I.hok ea
  obtain ⟨od, J, _⟩ := O.look
  refine PySem.W.len_K fr I.ok.mod.kin J c.at_ c.fn ?_
  have hl : ([Value.ref a] ++ []).length = ps.length := (F.len _ _ _ _ q)
  have b := hb s [.ref a] I.kIn hl
  rw [List.append_nil] at b
  refine wpAny_call (codeAny_mono (F.run X.A.in1 X.stack s H ⟨[.ref a], []⟩ [.ref a] [.ref a] _ E0 hr.in1 I.env0.in1 b (.cons rfl .nil) q) fun r s' hq' => ?_)
  cases r with
  | error e => exact False.elim hq'
  | ok fl =>
    cases fl with
    | ret u =>
      obtain ⟨v, H', I3, rv, n, rfl, h0, h1, q3⟩ := I.after hq'
      obtain ⟨t, rfl⟩ := rv
      exact ⟨⟨h0, Int.lt_trans h1 (by decide)⟩, ⟨.int n, H', I3.tok _, ⟨_, rfl⟩, q3⟩⟩
    | next => exact False.elim hq'
    | brk => exact False.elim hq'
    | cont => exact False.elim hq'
structure CalL (P : Program) (w : World) (K : PySem.W.Frag) (mg : Str → Option Value) (base : Heap) (CX : CXT) (k : Nat) (C f : Addr) (fd : FuncData) (ps : List Str) (sp : Sp) : Prop extends CalB P w K mg base CX k f fd ps sp where
  le : LenC K C f
end El

set_option Elab.async false
set_option linter.all false
set_option maxRecDepth 100000
set_option maxHeartbeats 4000000
/-! Own words: static methods and callable objects inside a try; exception classes that inherit their __init__. -/
namespace El
open PySem PySem.Spec PyProof.Rows L2
section
variable {X : Cx} {CX : CXT} {k : Nat} {C p g f : Addr} {mc : Value} {fd : FuncData} {ps : List Str} {sp : Sp} {E : L2.St → XK} {o e fe : Expr} {es : List Expr} {m : Str} {pos apos : Pos} {ta tf : TE} {t : TA} {pl : Sem Bool}
theorem code_fnS {pins : List (Addr × Obj)} {σ : L2.St} {H : Hp} {s : Shared} {Q : VK} {us : List Value} {vs : List V} (F : FnOk X.prog X.w X.K X.mg X.base CX k f fd ps sp) (hr : Room k X.A) (hb : Binds X.K fd ps []) (hx : PassesAt CX X σ (E σ))
    (I : Inv X pins σ H s) (r : Vals vs us) (h : sp vs H Q (E σ)) : codeAny (model X.prog X.w) X.A (.call (.ref f) ⟨us, []⟩) (fun r s' => match r with | .ok (.ret u) => EP X pins σ Q u s' | .error e => X.xe e s' | _ => False) s := by
  have hl : us.length = ps.length := by rw [← r.length]; exact F.len _ _ _ _ h
  have b := hb s us I.kIn (by rw [List.append_nil]; exact hl)
  rw [List.append_nil] at b
  refine codeAny_mono (F.run X.A X.stack s H ⟨us, []⟩ us vs Q (E σ) hr I.env0 b r h) fun r s' hq => ?_
  cases r with
  | error e => exact hx pins H s e s' I hq
  | ok fl =>
    cases fl with
    | ret u => exact I.after hq
    | next => exact False.elim hq
    | brk => exact False.elim hq
    | cont => exact False.elim hq
/-- C.m(e, ..), what it lets out being taken where it stands -/
def tSMS (C : Addr) (sp : Sp) (E : L2.St → XK) (ta : TE) (t : TA) : TE := fun σ H Q => ta σ H fun x H1 => x = .ref C ∧ t σ H1 fun vs H2 => sp vs H2 Q (E σ)
theorem pe_smethS (he : PE X o ta) (r : ClX.CRead X.K C mc) (c : SMet X.K C mc m p g) (F : FnOk X.prog X.w X.K X.mg X.base CX k g fd ps sp) (hr : Room k X.A) (hb : Binds X.K fd ps []) (hx : ∀ σ, PassesAt CX X σ (E σ)) (ha : PA X (e :: es) t)
    (hst : starEach (e :: es) X.env = (false, eval e X.env) :: starEach es X.env := by rfl) (hpl : (backTo pos (starEach es X.env)).any (·.1) = false := by rfl)
    (ht : eval (.Call (.Attribute o m apos) (e :: es) [] pos) X.env = (do
      let ov ← eval o X.env
      standAt apos.atName
      let (f, first) ← holding [ov] (getMethod ov m pl)
      callWith pos f first (backTo pos (starEach (e :: es) X.env)) (backToKw pos (keywordEach [] X.env))) := by rfl) :
    PE X (.Call (.Attribute o m apos) (e :: es) [] pos) (tSMS C sp E ta t) := by
  refine ⟨fun pins s σ H Q I h => ?_⟩
  refine PySem.W.methodCall_KW (pl := pl) (thn (he.run pins s σ H _ I h) fun u s1 ⟨x, H1, I1, rx, ex, q⟩ => ?_) ht
  subst ex
  obtain rfl : u = Value.ref C := rx
  refine getsm_ok I1 r c fun s2 I2 => ?_
  refine PySem.W.callWith_K (h₀ := X.base) I2.ok.mod.kin c.kp (thn (ha.run pos pins s2 σ H1 _ I2 q) fun us s3 ⟨vs, H2, I3, rv, q2⟩ => ⟨I3.kIn, ?_⟩) hst hpl
  exact run_fnS F hr hb (hx σ) I3 rv q2
/-- f(e, ..), f an instance of C, what it lets out being taken where it stands -/
def tCallOS (C : Addr) (sp : Sp) (E : L2.St → XK) (tf : TE) (t : TA) : TE := fun σ H Q => tf σ H fun y H1 => ∃ a, y = V.ref a ∧ t σ H1 fun vs H2 => (∃ dx fs, H2 a = some (.ins C dx fs)) ∧ sp (V.ref a :: vs) H2 Q (E σ)
theorem pe_callOS (hf : PE X fe tf) (c : StX.CallO X.K C g) (F : FnOk X.prog X.w X.K X.mg X.base CX k g fd ps sp) (hb : Binds X.K fd ps []) (hr : Room k X.A) (hx : ∀ σ, PassesAt CX X σ (E σ)) (ha : PA X (e :: es) t)
    (ht : eval (.Call fe (e :: es) [] pos) X.env = (do callWith pos (← eval fe X.env) [] (backTo pos (starEach (e :: es) X.env)) (backToKw pos (keywordEach [] X.env))) := by rfl)
    (he : starEach (e :: es) X.env = (false, eval e X.env) :: starEach es X.env := by rfl) (hpl : (backTo pos (starEach es X.env)).any (·.1) = false := by rfl) : PE X (.Call fe (e :: es) [] pos) (tCallOS C sp E tf t) := by
  refine ⟨fun pins s σ H Q I h => ?_⟩
  refine Call_ (thn (hf.run pins s σ H _ I h) fun u s1 ⟨y, H1, I1, ry, a, ey, q⟩ => ?_) ht
  subst ey
  obtain rfl : u = Value.ref a := ry
  refine StX.callO_with (thn (ha.run pos pins s1 σ H1 _ I1 q) fun us s2 ⟨vs, H2, I2, r, hi, q2⟩ => ?_) he hpl
  obtain ⟨ox, od, J, hd⟩ := StX.insC_at I2 (.inr hi)
  refine ⟨⟨C, ox, od, J, hd⟩, ?_⟩
  refine wpAny_call (PySem.W.kco_code I2.kIn J hd c.at_ c.fn c.fi (codeAny_mono (code_fnS (us := .ref a :: us) (vs := .ref a :: vs) F hr hb (hx σ) I2 (.cons rfl r) q2) fun r s' h => ?_))
  cases r with
  | error e => exact h
  | ok fl =>
    cases fl with
    | ret u => exact h
    | next => exact False.elim h
    | brk => exact False.elim h
    | cont => exact False.elim h
end

/-! ### an exception class C whose __init__ is that of D above it -/
open NdefX
structure ExI (K : PySem.W.Frag) (C D fI : Addr) (fields : List Str) : Prop where
  oex : OexC K C
  sup : PySem.W.ks_superIn K C D "__init__" = some (some (.builtin "ValueError.__init__"))
  subV : PySem.W.subIn K (.ref C) (.type "ValueError") = some true
  mro : PySem.W.mroIn K C (.ref D) = some true
  iC : PySem.W.findIn K (.ref C) "__init__" = some (some (.ref fI))
  tI : PySem.W.typeIn K (.ref fI) = some (.type "function")
  no : ∀ f ∈ fields, PySem.W.findIn K (.ref C) f = some none
  xf : XfC K C
  is : ExcC K C
theorem exi_mk {K : PySem.W.Frag} {C D fI N : Addr} {fields : List Str} {nm q : Str} {bs bm : List Value} {sn : List Str} {sub : List Value} {ab : Bool} {col : Option Bool} {dd : Option Addr} {k0 k1 k2 k3 k5 : Option Value}
    (cls : K.lookup C = some (excClassObj nm q C N bs bm true sn sub ab col dd k0 k1 k2 k3 k5 "ValueError.__new__")) (ref : PySem.HandSPX.refsVE bm = true)
    (sa : PySem.W.findIn K (.ref C) "__setattr__" = some (some (.builtin "object.__setattr__"))) (exC : PySem.W.subIn K (.ref C) (.type "BaseException") = some true) (tyC : PySem.W.typeIn K (.ref C) = some (.type "type")) (kC : PySem.W.keepIn K (.ref C) = true)
    (sup : PySem.W.ks_superIn K C D "__init__" = some (some (.builtin "ValueError.__init__"))) (subV : PySem.W.subIn K (.ref C) (.type "ValueError") = some true) (mro : PySem.W.mroIn K C (.ref D) = some true)
    (iC : PySem.W.findIn K (.ref C) "__init__" = some (some (.ref fI))) (tI : PySem.W.typeIn K (.ref fI) = some (.type "function")) (no : ∀ f ∈ fields, PySem.W.findIn K (.ref C) f = some none)
    (ga : PySem.W.findIn K (.ref C) "__getattribute__" = some (some (.builtin "BaseException.__getattribute__"))) (gg : PySem.W.findIn K (.ref C) "__getattr__" = some none) (hd : PySem.W.hasDictIn K C = true)
    (hcl : PySem.W.findIn K (.ref C) "__class__" = some (some (.builtin "object.__class__"))) (hn : PySem.W.specialIn K (.builtin "object.__class__") "__get__" = some (some (.builtin "getset_descriptor.__get__"))) (ht : PySem.W.takesIn K (.builtin "object.__class__") = some true) (hm : PySem.W.mroIn K C (.type "object") = some true) : ExI K C D fI fields :=
  ⟨⟨⟨nm, q, N, bs, bm, sn, sub, ab, col, dd, k0, k1, k2, k3, k5, cls, ref⟩, sa, exC, tyC, kC⟩, sup, subV, mro, iC, tI, no, ⟨ga, gg, exC, hd⟩, ⟨ga, gg, exC, hd, hcl, hn, ht, hm⟩⟩
structure CalEI (P : Program) (w : World) (K : PySem.W.Frag) (mg : Str → Option Value) (base : Heap) (k : Nat) (x : Str) (C f : Addr) (fd : FuncData) (ps : List Str) (ok : List V → Prop) (fs : List V → List (Str × V)) (fields : List Str) : Prop where
  G : FnOk P w K mg base CX0 k f fd ps (spE C ok fs)
  b : Binds K fd ps []
  X : ∃ D, ExI K C D f fields
  m : mg x = some (.ref C)
theorem CalEI.oex {P : Program} {w : World} {K : PySem.W.Frag} {mg : Str → Option Value} {base : Heap} {k : Nat} {x : Str} {C f : Addr} {fd : FuncData} {ps : List Str} {ok : List V → Prop} {fs : List V → List (Str × V)} {fields : List Str} (c : CalEI P w K mg base k x C f fd ps ok fs fields) : OexC K C := by obtain ⟨D, X⟩ := c.X; exact X.oex
theorem CalEI.iC {P : Program} {w : World} {K : PySem.W.Frag} {mg : Str → Option Value} {base : Heap} {k : Nat} {x : Str} {C f : Addr} {fd : FuncData} {ps : List Str} {ok : List V → Prop} {fs : List V → List (Str × V)} {fields : List Str} (c : CalEI P w K mg base k x C f fd ps ok fs fields) : PySem.W.findIn K (.ref C) "__init__" = some (some (.ref f)) := by obtain ⟨D, X⟩ := c.X; exact X.iC
theorem CalEI.tI {P : Program} {w : World} {K : PySem.W.Frag} {mg : Str → Option Value} {base : Heap} {k : Nat} {x : Str} {C f : Addr} {fd : FuncData} {ps : List Str} {ok : List V → Prop} {fs : List V → List (Str × V)} {fields : List Str} (c : CalEI P w K mg base k x C f fd ps ok fs fields) : PySem.W.typeIn K (.ref f) = some (.type "function") := by obtain ⟨D, X⟩ := c.X; exact X.tI
/-! ### characters whose repr is bounded -/
def Asc (z : Str) : Prop := ∀ c ∈ z.cps.toList, c < 16 ^ 8
theorem repr_le {z : Str} (h : Asc z) (hl : z.length ≤ 1000) : (reprText z).length ≤ 10002 := Nat.le_trans (PySem.StrLaws.reprText_len z h) (by omega)
end El

set_option Elab.async false
set_option linter.all false
set_option maxRecDepth 100000
set_option maxHeartbeats 4000000
/-! Own words: methods of own classes, classes whose __init__ has defaults, tuple targets in comprehensions. -/
namespace El
open PySem PySem.Spec PyProof.Rows L2
structure CalM (P : Program) (w : World) (K : PySem.W.Frag) (mg : Str → Option Value) (base : Heap) (CX : CXT) (k : Nat) (C : Addr) (m : Str) (f : Addr) (fd : FuncData) (ps : List Str) (sp : Sp) : Prop extends CalB P w K mg base CX k f fd ps sp where
  cl : Cls K C
  me : Meth K C m f
/-- a class whose __init__ has defaults dvs that fill up -/
structure CalID (P : Program) (w : World) (K : PySem.W.Frag) (mg : Str → Option Value) (base : Heap) (CX : CXT) (k : Nat) (x : Str) (C f : Addr) (fd : FuncData) (ps : List Str) (dvs : List V) (sp : Sp) : Prop where
  G : FnOk P w K mg base CX k f fd ps sp
  b : ∃ ds, Vals dvs ds ∧ Binds K fd ps ds
  mkc : Mk K C f
  m : mg x = some (.ref C)
section
variable {X : Cx} {CX : CXT} {k : Nat} {C f : Addr} {fd : FuncData} {ps : List Str} {dvs : List V} {sp : Sp} {E : XK} {x : Str} {p pos : Pos} {e : Expr} {es : List Expr} {t : TA}
theorem pe_makeD (c : CalID X.prog X.w X.K X.mg X.base CX k x C f fd ps dvs sp) (hr : Room (k + 1) X.A) (hg : Gl X x) (hx : Passes CX X E) (ha : PA X (e :: es) t) (hdb : (x == ("__debug__" : Str)) = false := by decide)
    (he : starEach (e :: es) X.env = (false, eval e X.env) :: starEach es X.env := by rfl) (hpl : (backTo pos (starEach es X.env)).any (·.1) = false := by rfl) :
    PE X (.Call (.Name x p) (e :: es) [] pos) (tMake C sp dvs E t) := by
  obtain ⟨ds, hd, hb⟩ := c.b
  exact pe_make c.mkc c.G hr hg c.m hb hd hx ha hdb he hpl
end
section
variable {X : Cx}
theorem pg_tupK (K : PySem.W.Frag) {es : List Expr} {k : Nat} {t : TGs} {n : Nat} {pos : Pos} (hc : X.calm = true) (h : PGs X es t)
    (hn : (assignEach es X.env).length = n := by rfl) (hst : (assignEach es X.env).findIdx? (·.1) = none := by rfl) (hK : X.K = K := by rfl) : PG X (.Tuple es k pos) (gTup K n t) := hK ▸ pg_tup hc h hn hst
end
/-- a def of the text whose last parameter has a default -/
theorem fund_mk {K : PySem.W.Frag} {x qual : Str} {st : Stmt} {f T : Addr} {oc : Value} {od dd an : Option Addr} {osl dsl : Array (Option Value)} {kV doc pm cdv ct : Value} {its : Array Value} {n : Nat} {dvs : List V}
    (l : K.lookup f = some ⟨oc, od, .func (PySem.W.fnOf x qual (defArgs st) (defBody st) (defScope st) (.ref T) kV doc pm an cdv ct), osl⟩) (c : PySem.W.codeIn K cdv qual = true) (k : PySem.W.keepIn K (.ref f) = true)
    (lT : K.lookup T = some ⟨.type "tuple", dd, .seq its n, dsl⟩) (hv : Vals dvs its.toList) (hne : dvs ≠ []) : FunD K x qual (defArgs st) (defBody st) (defScope st) dvs [] f (PySem.W.fnOf x qual (defArgs st) (defBody st) (defScope st) (.ref T) kV doc pm an cdv ct) :=
  ⟨⟨oc, od, .ref T, kV, doc, pm, an, cdv, ct, osl, rfl, l, c, .inr ⟨hne, T, _, its.toList, n, rfl, lT, by simp, hv⟩, .inl rfl⟩, k⟩
end El

set_option Elab.async false
set_option linter.all false
set_option maxRecDepth 100000
set_option maxHeartbeats 4000000
/-! Own words: `in`, `not in` and `[..]` of own classes. -/
namespace El
open PySem PySem.Spec PyProof.Rows L2
/-- an own class's `__contains__` -/
structure InC (K : PySem.W.Frag) (C f : Addr) : Prop where
  at_ : PySem.W.findIn K (.ref C) "__contains__" = some (some (.ref f))
  fn : PySem.W.isFn K (.ref f) = true
/-- an own class's `__getitem__` -/
structure ItC (K : PySem.W.Frag) (C f : Addr) : Prop where
  at_ : PySem.W.findIn K (.ref C) "__getitem__" = some (some (.ref f))
  fn : PySem.W.isFn K (.ref f) = true
  ns : PySem.W.noSeq K C = true
section
variable {X : Cx} {CX : CXT} {k : Nat} {C f : Addr} {fd : FuncData} {ps : List Str} {sp : Sp} {E : XK}
/-- x in a, a of the class at C; n: not in -/
def rInO (n : Bool) (C : Addr) (sp : Sp) (E : XK) : R2 := fun x y H Q => ∃ a dx fs, y = .ref a ∧ H a = some (.ins C dx fs) ∧ sp [.ref a, x] H (fun v H' => ∃ b : Bool, v = .bl b ∧ Q (.bl (n ^^ b)) H') E
theorem op_inO (c : InC X.K C f) (F : FnOk X.prog X.w X.K X.mg X.base CX k f fd ps sp) (hr : Room k X.A) (hb : Binds X.K fd ps []) (hx : Passes CX X E) : OpR X (compareOp .In) (rInO false C sp E) := by
  intro pins s σ H x y v u Q I rx ry h
  obtain ⟨a, dx, fs, rfl, ea, q⟩ := h
  obtain rfl : u = Value.ref a := ry
  obtain ⟨m, fr⟩ := I.fr
  obtain ⟨mA, O, _⟩ := ins_get I.hok ea
  obtain ⟨od, J, _⟩ := O.look
  refine PySem.W.in_K fr I.ok.mod.kin J c.at_ c.fn ?_
  refine wpAny_mono (run_fn (us := [.ref a, v]) (vs := [.ref a, x]) (ds := []) (dvs := []) F hr hb .nil hx I (.cons rfl (.cons rx .nil)) q) (fun u' s' h' => ?_) fun _ _ z => z
  obtain ⟨w, H', I', rw', b, rfl, q'⟩ := h'
  cases (show u' = Value.bool b from rw')
  refine wpAny_pure ⟨.bl b, H', I', rfl, ?_⟩
  cases b <;> exact q'
theorem op_notInO (c : InC X.K C f) (F : FnOk X.prog X.w X.K X.mg X.base CX k f fd ps sp) (hr : Room k X.A) (hb : Binds X.K fd ps []) (hx : Passes CX X E) : OpR X (compareOp .NotIn) (rInO true C sp E) := by
  intro pins s σ H x y v u Q I rx ry h
  obtain ⟨a, dx, fs, rfl, ea, q⟩ := h
  obtain rfl : u = Value.ref a := ry
  obtain ⟨m, fr⟩ := I.fr
  obtain ⟨mA, O, _⟩ := ins_get I.hok ea
  obtain ⟨od, J, _⟩ := O.look
  refine PySem.W.notIn_K fr I.ok.mod.kin J c.at_ c.fn ?_
  refine wpAny_mono (run_fn (us := [.ref a, v]) (vs := [.ref a, x]) (ds := []) (dvs := []) F hr hb .nil hx I (.cons rfl (.cons rx .nil)) q) (fun u' s' h' => ?_) fun _ _ z => z
  obtain ⟨w, H', I', rw', b, rfl, q'⟩ := h'
  cases (show u' = Value.bool b from rw')
  refine wpAny_pure ⟨.bl (!b), H', I', rfl, ?_⟩
  cases b <;> exact q'
/-- a[y], a of the class at C -/
def rItO (C : Addr) (sp : Sp) (E : XK) : R2 := fun x y H Q => ∃ a dx fs, x = .ref a ∧ H a = some (.ins C dx fs) ∧ sp [.ref a, y] H Q E
theorem op_itO (c : ItC X.K C f) (F : FnOk X.prog X.w X.K X.mg X.base CX k f fd ps sp) (hr : Room k X.A) (hb : Binds X.K fd ps []) (hx : Passes CX X E) : OpR X getItem (rItO C sp E) := by
  intro pins s σ H x y v u Q I rx ry h
  obtain ⟨a, dx, fs, rfl, ea, q⟩ := h
  obtain rfl : v = Value.ref a := rx
  obtain ⟨m, fr⟩ := I.fr
  obtain ⟨mA, O, _⟩ := ins_get I.hok ea
  obtain ⟨od, J, _⟩ := O.look
  refine PySem.W.getItem_K fr I.ok.mod.kin J c.ns c.at_ c.fn ?_
  exact run_fn (us := [.ref a, u]) (vs := [.ref a, y]) (ds := []) (dvs := []) F hr hb .nil hx I (.cons rfl (.cons ry .nil)) q
end
end El

set_option Elab.async false
set_option linter.all false
set_option maxRecDepth 100000
set_option maxHeartbeats 4000000
/-! Own words: iterating an own class whose `__iter__` returns iter(..) of a tuple. -/
namespace El
open PySem PySem.Spec PyProof.Rows L2
/-- a promise that may speak of how many objects there were at the call -/
def FnS (P : Program) (w : World) (K : PySem.W.Frag) (mg : Str → Option Value) (base : Heap) (CX : CXT) (k : Nat) (f : Addr) (sp : Nat → Sp) : Prop :=
  ∀ (A : Around) (outer : List Env) (s : Shared) (H : Hp) (us : List Value) (vs : List V) (Q : VK) (E : XK), Room k A → Env0 P w K mg base A outer s H → Vals vs us → sp s.heap.objs.size vs H Q E →
    codeAny (model P w) A (.call (.ref f) ⟨us, []⟩) (CR CX outer P w H s Q E) s
section
variable {P : Program} {w : World} {K : PySem.W.Frag} {mg : Str → Option Value} {base : Heap} {j k : Nat} {f : Addr} {sp : Nat → Sp}
theorem FnS.mono {CX : CXT} (F : FnS P w K mg base CX j f sp) (h : j ≤ k) : FnS P w K mg base CX k f sp := fun A outer s H us vs Q E hr => F A outer s H us vs Q E (hr.mono h)
theorem fun_okS {x qual : Str} {st : Stmt} {fd : FuncData} {N ps : List Str} (F : Fun K x qual st f fd) (S : FnScope N ps (defScope st)) (hb : Binds K fd ps []) (len : ∀ n vs H Q E, sp n vs H Q E → vs.length = ps.length)
    (hbody : ∀ (cdv : Value) (A : Around) (outer : List Env) (s : Shared) (H : Hp) (vs : List V) (Q : VK) (E : XK), Room k (A.deeper (envOfC qual (defScope st) s.heap.objs.size f cdv)) → sp s.heap.objs.size vs H Q E →
      ∃ t, PSs (cxOf CX0 P w K mg base N qual (defScope st) f cdv A outer s H E).nox (defBody st) t ∧ t { nx := fun _ H' => Q .non H', rt := Q } (start N vs) H) : FnS P w K mg base CX0 (k + 1) f sp := by
  obtain ⟨oc, od, kV, doc, pm, an, cdv, ct, osl, rfl, lk, hcd⟩ := F.ex
  intro A outer s H us vs Q E hr e0 r hsp
  have hl := len _ _ _ _ _ hsp
  have KX : K.In s.heap := e0.mod.kin.keeps fun b o e => (e0.bs b o e).1
  have bt := hb s us KX (by rw [List.append_nil, ← r.length]; exact hl)
  rw [List.append_nil] at bt
  have nl : s.heap.NoLimit := e0.mod.nolimit.keeps fun b o e => (e0.bs b o e).1
  refine codeAny_call_function hr.depth (KX _ _ lk) rfl S.co S.gen rfl (PySem.W.codeRec_of KX hcd) (bt _ _ _ _ ?_)
  refine wpAny_newFunctionEnv_cells S.kind (fun y hy => (S.par y.1 (List.of_mem_zip hy).1).imp id fun q => ⟨q, PySem.W.cellsFrom_some _ _ _ (.inl q)⟩) fun env he s1 x => ⟨nl.keeps x.toInCall.keep, codeAny_func ?_⟩
  subst he
  obtain ⟨t, ht, hq⟩ := hbody cdv A outer s H vs Q E (hr.deeper _) hsp
  have I := inv_start (CX := CX0) (w := w) (E := E) S hr.hd e0 hl r x
  refine wpAny_mono (ht.nox.run [] s1 (start N vs) H _ I hq) (fun fl s' hs => ?_) fun _ _ hs => hs
  match fl, hs with
  | .ret u, ⟨v, σ', H', J, rv, q⟩ => exact ⟨v, H', J.os, J.bare, J.base, J.hok, rv, q⟩
  | .next, ⟨σ', H', J, q⟩ => exact ⟨V.non, H', J.os, J.bare, J.base, J.hok, rfl, q⟩
  | .brk, ⟨_, _, _, q⟩ => exact False.elim q
  | .cont, ⟨_, _, _, q⟩ => exact False.elim q
end

/-! ### iter(..) of a tuple -/
def tiObj (t : Addr) : Obj := { cls := .type "tuple_iterator", data := .fields #[.ref t, .int 0 0] }
/-- at it the iterator of the tuple at t, at its beginning -/
def TitO (t it : Addr) : HO := .ext fun h => h.get? it = some (tiObj t)
theorem titO_ok {P : Program} {w : World} {H : Hp} {h : Heap} {t it : Addr} (e : h.get? it = some (tiObj t)) : ObjOk P w H h it (TitO t it) := ⟨e, ⟨_, e⟩, fun _ _ q k => k _ q⟩
theorem titO_get {X : Cx} {pins : List (Addr × Obj)} {σ : L2.St} {H : Hp} {s : Shared} {t it : Addr} (I : Inv X pins σ H s) (e : H it = some (TitO t it)) : s.heap.get? it = some (tiObj t) := (I.hok it _ e).1
def rIterT (K : PySem.W.Frag) (n : Nat) : List V → Hp → VK → Prop := fun xs H Q => ∃ (t : Addr) (zs : List V), xs = [.ref t] ∧ SqT K H t zs ∧ ∀ it, H it = none → n ≤ it → Q (.ref it) (upd H it (TitO t it))
theorem run_iterT {prog : Program} {w : World} {A : Around} {E : Value → Shared → Prop} {s : Shared} {t : Addr} {items : Array Value} {Q : Value → Shared → Prop} (ht : s.heap.IsTuple t items) (h : Q (.ref s.heap.objs.size) { s with heap := s.heap.push (tiObj t) }) : wpAny (model prog w) A (call (.builtin "iter") [.ref t]) Q E s := by
  refine Calls.call_function_entry (by decide +kernel) (by decide +kernel) PySem.W.kdk_entry_iter (PySem.W.kdk_args_iter _) ?_
  unfold Builtin.«iter»
  refine wpAny_bind (m := someArgs "iter" 1 2 _) (wpAny_of_eq (a := [Value.ref t]) (by first | rfl | kernel_rfl!) ?_)
  exact wpAny_bind (wpAny_pyIter_tuple ht (wpAny_pure ⟨_, rfl, h⟩))
theorem call_iterT {X : Cx} : CallR X (.builtin "iter") (rIterT X.K X.s_0.heap.objs.size) := by
  intro pins s σ H xs us Q I r h
  obtain ⟨t, zs, rfl, hq, q⟩ := h
  obtain rfl := Vals.ref1 r
  obtain ⟨its, rv, p, hz⟩ := I.tuple hq
  refine run_iterT (show s.heap.IsTuple t its.toArray from p) ?_
  exact ⟨.ref s.heap.objs.size, _, I.laid (t' := s.toks) (fun b u e => Heap.get?_push_of_some _ e) (Nat.le_refl _) (titO_ok (Heap.get?_push_size _ rfl)), rfl, q _ (I.hok.fresh (Nat.le_refl _)) I.sz⟩
theorem iterTK {X : Cx} (K : PySem.W.Frag) (n : Nat) (h : X.K = K := by rfl) (hn : X.s_0.heap.objs.size = n := by rfl) : CallR X (.builtin "iter") (rIterT K n) := h ▸ hn ▸ call_iterT

/-! ### for x in a, a of the class at C -/
structure OitC (K : PySem.W.Frag) (C f : Addr) : Prop where
  at_ : PySem.W.findIn K (.ref C) "__iter__" = some (some (.ref f))
  fn : PySem.W.isFn K (.ref f) = true
/-- behind the call the iterator is forgotten -/
def iOwnT (K : PySem.W.Frag) (C : Addr) (sp : Nat → Sp) (n : Nat) (E : XK) (te : TE) : TI := fun σ H R => te σ H fun x H1 => ∃ a dx fs, x = .ref a ∧ H1 a = some (.ins C dx fs) ∧ ∀ m, n ≤ m → sp m [.ref a] H1 (fun v H2 => ∃ t it, v = .ref it ∧ H2 it = some (TitO t it) ∧ n ≤ it ∧ R (Itt K t) (ItX.dropH H2 it)) E
theorem pi_ownT {X : Cx} {CX : CXT} {k : Nat} {C f : Addr} {sp : Nat → Sp} {E : XK} {tg e : Expr} {te : TE} (c : OitC X.K C f) (F : FnS X.prog X.w X.K X.mg X.base CX k f sp) (hr : Room k X.A) (hx : Passes CX X E) (he : PE X e te) : PI X tg e (iOwnT X.K C sp X.s_0.heap.objs.size E te) := by
  refine ⟨fun pins s σ H R I h => ?_⟩
  refine thn (he.run pins s σ H _ I h) fun v s1 ⟨x, H1, I1, r1, a, dx, fs, ex, ea, q⟩ => ?_
  subst ex
  obtain rfl : v = Value.ref a := r1
  obtain ⟨m, fr⟩ := I1.fr
  obtain ⟨mA, O, _⟩ := ins_get I1.hok ea
  obtain ⟨od, J, _⟩ := O.look
  refine PySem.W.owit_iter fr I1.ok.mod.kin J c.at_ c.fn ?_
  refine wpAny_call (codeAny_mono (F X.A X.stack s1 H1 [.ref a] [.ref a] _ E hr I1.env0 (.cons rfl .nil) (q _ I1.sz)) fun r s' hq => ?_)
  match r, hq with
  | .error e, hq => exact hx pins σ H1 s1 e s' I1 hq
  | .ok (.ret u), hq =>
    obtain ⟨w', H2, I2, rw', t, it, rfl, hi, hn, hR⟩ := I1.after hq
    obtain rfl : u = Value.ref it := rw'
    have eo := titO_get I2 hi
    have hi' := hi
    unfold TitO at hi'
    have LT : PySem.W.Looks (model X.prog X.w) s'.heap (typeOf (.ref it)) (.type "tuple_iterator") := (PySem.W.Looks.ld (part := none) eo).andThen .now
    have LN : PySem.W.Looks (model X.prog X.w) s'.heap (specialOf (.ref it) (Str.ofString "__next__")) (some (.builtin "tuple_iterator.__next__")) := LT.andThen (PySem.W.Looks.of_pure slot_tupleiter_next.lookup)
    refine LN.here ?_
    refine ⟨it, [it], _, _, ItX.dropH H2 it, rfl, ItX.inv_drop I2 hi', turn_tuple t it, ⟨_, eo, rfl, rfl⟩, fun b hb => ?_, hR⟩
    have e : b = it := by simpa using hb
    rw [e]
    exact ItX.inv_fp I2 hi hn
  | .ok .next, hq => exact False.elim hq
  | .ok .brk, hq => exact False.elim hq
  | .ok .cont, hq => exact False.elim hq
end El

set_option Elab.async false
set_option linter.all false
set_option maxRecDepth 100000
set_option maxHeartbeats 4000000
/-! Own words: len(set(t)) of a tuple of any number of texts. -/
namespace El
open PySem PySem.Spec PyProof.Rows L2
/-- among the first i texts -/
def Has (xs : List Str) (i : Nat) : Str → Bool := fun y => (xs.take i).any (· == y)
/-- c different ones among the first i, as far as it is asked -/
def Cnt (xs : List Str) (i c : Nat) : Prop := c ≤ i ∧ (c = i ↔ (xs.take i).Nodup)
theorem has_iff {xs : List Str} {i : Nat} {y : Str} : Has xs i y = true ↔ y ∈ xs.take i := by
  unfold Has
  rw [List.any_eq_true]
  constructor
  · rintro ⟨z, hz, e⟩
    rw [beq_iff_eq] at e
    exact e ▸ hz
  · intro h
    exact ⟨y, h, beq_iff_eq.mpr rfl⟩
theorem take_more {xs : List Str} {i : Nat} {x : Str} (e : xs[i]? = some x) : xs.take (i + 1) = xs.take i ++ [x] := by rw [List.take_add_one, e]; rfl
theorem Cnt.nil (xs : List Str) : Cnt xs 0 0 := ⟨Nat.le_refl _, by simp⟩
theorem Cnt.more {xs : List Str} {i c : Nat} {x : Str} (h : Cnt xs i c) (e : xs[i]? = some x) : Cnt xs (i + 1) (if Has xs i x = true then c else c + 1) := by
  obtain ⟨h1, h2⟩ := h
  have hn : (xs.take (i + 1)).Nodup ↔ (xs.take i).Nodup ∧ x ∉ xs.take i := by
    rw [take_more e, List.nodup_append]
    constructor
    · rintro ⟨a, -, b⟩
      exact ⟨a, fun hx => b x hx x (List.mem_singleton.mpr rfl) rfl⟩
    · rintro ⟨a, b⟩
      refine ⟨a, by simp, fun y hy z hz => ?_⟩
      rw [List.mem_singleton] at hz
      intro q
      exact b (hz ▸ q ▸ hy)
  unfold Cnt
  rw [hn]
  by_cases q : Has xs i x = true
  · rw [if_pos q]
    refine ⟨by omega, ⟨fun z => absurd z (by omega), fun z => absurd (has_iff.mp q) z.2⟩⟩
  · rw [if_neg q]
    refine ⟨by omega, ⟨fun z => ⟨h2.mp (by omega), fun y => q (has_iff.mpr y)⟩, fun z => by rw [h2.mpr z.1]⟩⟩
section
variable {prog : Program} {w : World} {A : Around} {R : Result → Shared → Prop} {it : Addr} {fp wr : List Addr} {G : Array GenState → Array GenState → Prop} {n : Nat} {Pv : Nat → Value → Prop} {St : Nat → Shared → Prop}
theorem loopTx (W : WalksS prog w A.in1 it fp wr G n Pv St) (b : Addr) (hb : b ∉ fp) (xs : List Str) (hn : xs.length = n) (hs : n + 1 < scanBound) (hv : ∀ i v, Pv i v → ∃ t, v = .str (xs.getD i Str.empty) t) :
    ∀ (k i : Nat) (s : Shared), n - i = k → i ≤ n → St i s → (∃ c, Cnt xs i c ∧ s.heap.SetOf (PySem.strKind prog w) b (Has xs i) c) →
      (∀ s' c, Moved (b :: wr) G s s' → Cnt xs n c → s'.heap.SetOf (PySem.strKind prog w) b (Has xs n) c → R (.ok (.ret .none)) s') →
      codeAny (model prog w) A (.builtin "set.update.loop" ⟨[.ref b, .ref it], []⟩) R s := by
  have hbw : b ∉ wr := fun h => hb (W.sub _ h)
  have wsub : ∀ q ∈ wr, q ∈ b :: wr := fun q hq => List.mem_cons_of_mem _ hq
  intro k
  induction k with
  | zero =>
    rintro i s hk hi st ⟨c, hc, ho⟩ done
    obtain rfl : i = n := by omega
    refine codeAny_builtin PyProof.Rows.F.entry_set_update_loop ?_
    rw [Around.under_plainId PyProof.Rows.F.plain_set_update_loop _]
    refine wpAny_bind (m := pyNext (.ref it)) (W.done s _ _ st fun s1 mv => ?_)
    refine wpAny_pure (done s1 c (mv.mono wsub) hc ?_)
    obtain ⟨o, es, ep, tb, e, more⟩ := ho
    exact ⟨o, es, ep, tb, mv.heap b _ hbw e, more⟩
  | succ k ih =>
    rintro i s hk hi st ⟨c, hc, ho⟩ done
    have lt : i < n := by omega
    refine codeAny_builtin PyProof.Rows.F.entry_set_update_loop ?_
    rw [Around.under_plainId PyProof.Rows.F.plain_set_update_loop _]
    refine wpAny_bind (m := pyNext (.ref it)) (W.item i s _ _ lt st fun v s1 pv st1 mv => ?_)
    obtain ⟨t, rfl⟩ := hv i v pv
    have ei : xs[i]? = some (xs.getD i Str.empty) := by
      rw [List.getD_eq_getElem?_getD, List.getElem?_eq_getElem (by omega)]; rfl
    have ho1 : s1.heap.SetOf (PySem.strKind prog w) b (Has xs i) c := by
      obtain ⟨o, es, ep, tb, e, more⟩ := ho
      exact ⟨o, es, ep, tb, mv.heap b _ hbw e, more⟩
    refine wpAny_bind (m := holding [Value.str (xs.getD i Str.empty) t] (setAdd b (.str (xs.getD i Str.empty) t))) (wpAny_holding ?_)
    unfold setAdd
    refine wpAny_holding (wpAny_bind ((PySem.strKind prog w).pyHash (strKind_is _ _ _ _) ?_))
    have hlt : c + 1 < scanBound := by have := hc.1; omega
    refine wpAny_setAddHashed_of (knd := PySem.strKind prog w) (s := { s1 with toks := s1.toks + 1 }) (strKind_is _ _ _ _) rfl ho1 hlt fun h' same ho2 => ?_
    have ho3 : h'.SetOf (PySem.strKind prog w) b (Has xs (i + 1)) (if Has xs i (xs.getD i Str.empty) = true then c else c + 1) := by
      refine SetOf_congr ho2 (fun y => ?_) rfl
      rw [Bool.eq_iff_iff, has_iff, take_more ei, List.mem_append, List.mem_singleton, Bool.or_eq_true, has_iff, decide_eq_true_iff]
    refine wpAny_pure ⟨plainId_quiet PyProof.Rows.F.plain_set_update_loop _, ih (i + 1) _ (by omega) lt (W.frame _ s1 _ _ st1 (Nat.le_succ _) fun q hq o e => ?_) ⟨_, hc.more ei, ho3⟩ fun s2 c2 mv2 hc2 hS2 => ?_⟩
    · exact (same.2 q fun z => hb (z ▸ hq)).trans e
    · refine done s2 c2 (Moved.trans W.gtrans ((mv.mono wsub).then_heap (Nat.le_succ _) fun q o hq e => ?_) mv2) hc2 hS2
      exact (same.2 q fun z => hq (z ▸ List.mem_cons_self)).trans e
end
/-- a new set's object -/
def setObj (led : Bool) : Obj := { cls := .type "set", dict := none, data := .set #[] 0 (.fresh 0 0 led) }
section
variable {prog : Program} {w : World} {A : Around} {E : Value → Shared → Prop} {s : Shared}
/-- what set.__init__ does to a new set with a tuple of texts -/
theorem init_tx {l : Addr} {items : Array Value} {xs : List Str} {led : Bool} (hh : A.handled = none) (hl : s.heap.IsTuple l items) (hi : PyProof.Rows.StrsAre items.toList xs) (hx : xs.length + 1 < scanBound) :
    codeAny (model prog w) A (.call (.builtin "set.__init__") ⟨[.ref s.heap.objs.size, .ref l], []⟩)
      (wants (fun r s2 => r = .none ∧ ∃ h' tk c, s2 = { s with heap := h', toks := tk } ∧ Cnt xs xs.length c ∧ h'.SetOf (PySem.strKind prog w) s.heap.objs.size (Has xs xs.length) c ∧ (∀ q o, s.heap.get? q = some o → h'.get? q = some o)) E)
      { s with heap := s.heap.push (setObj led) } := by
  have hT : Shared.TypeIs { s with heap := s.heap.push (setObj led) } (.ref s.heap.objs.size) "set" := ⟨_, Heap.get?_push_size _ rfl, rfl⟩
  refine codeAny_call_builtin PySem.F.called_set.init.plain PySem.F.entry_set_init (check_set_init_1 hT ?_)
  obtain ⟨⟨kc, kd, kx, ks⟩, hol, hcl, nl, hdl⟩ := hl
  simp only at hcl hdl
  subst hcl hdl
  have hol' : (s.heap.push (setObj led)).get? l = some _ := Heap.get?_push_of_some _ hol
  have hl1 : (s.heap.push (setObj led)).IsTuple l items := ⟨_, hol', rfl, nl, rfl⟩
  have hsls := PySem.F.sub_tuple_set
  have hslf := PySem.F.sub_tuple_frozenset
  have hne : (Value.type "tuple" == Value.type "dict") = false := by decide
  unfold Builtin.«set.__init__» noKeywords Builtin.Frozenset.updateFrom
  generalize ePI : pyIter = PI
  wp_walk
  subst ePI
  refine wpAny_pyIter_tuple hl1 (wpAny_bind (wpAny_runValue ?_))
  have below : l < s.heap.objs.size := Heap.lt_size hol
  have nh : A.in1.in1.handled = none := by simp [hh]
  have z1 : (s.heap.push (setObj led)).objs.size = s.heap.objs.size + 1 := Heap.size_push ..
  have apart : l ≠ (s.heap.push (setObj led)).objs.size := by
    rw [z1]
    exact Nat.ne_of_lt (Nat.lt_succ_of_lt below)
  have out : s.heap.objs.size ∉ [(s.heap.push (setObj led)).objs.size, l] := by
    rw [List.mem_cons, List.mem_singleton, z1]
    exact fun q => q.elim (Nat.ne_of_lt (Nat.lt_succ_self _)) (Nat.ne_of_gt below)
  have zx : xs.length = items.size := by rw [← StrsAre.len_eq hi, Array.length_toList]
  refine loopTx ((Walks.tuple nh _ l apart items).toS) s.heap.objs.size out xs zx (zx ▸ hx) (fun i v e => SS.strs_at hi i v (Array.getElem?_toList ▸ e)) (items.size - 0) 0 _ (by omega) (Nat.zero_le _) ?at_ ?first ?last
  case at_ => exact ⟨⟨_, Heap.get?_push_size _ rfl, rfl, rfl⟩, hl1.push _⟩
  case first =>
    refine ⟨0, Cnt.nil xs, ?_⟩
    refine SetOf_congr ((PyProof.Rows.setObjOf_fresh (knd := PySem.strKind prog w) led).setOf (Heap.get?_push_of_some _ (Heap.get?_push_size _ rfl)) (by unfold scanBound; omega)) (fun y => ?_) rfl
    rfl
  case last =>
    rintro ⟨h', g', d', tk', os'⟩ c mv hc ho
    obtain rfl : g' = s.gens := mv.gens
    obtain rfl : d' = s.drawn := mv.drawn
    obtain rfl : os' = s.os := mv.os
    refine wpAny_pure (wpAny_pure ⟨rfl, h', tk', c, rfl, zx ▸ hc, zx ▸ ho, fun q o e => ?_⟩)
    have lq := Heap.lt_size e
    refine mv.heap q o (by rw [List.mem_cons, List.mem_singleton, z1]; exact fun z => z.elim (Nat.ne_of_lt lq) (Nat.ne_of_lt (Nat.lt_succ_of_lt lq))) (Heap.get?_push_of_some _ (Heap.get?_push_of_some _ e))
set_option maxHeartbeats 8000000 in
theorem call_set_tx {l : Addr} {items : Array Value} {xs : List Str} {Q : Value → Shared → Prop} (hh : A.handled = none) (hl : s.heap.IsTuple l items) (hi : PyProof.Rows.StrsAre items.toList xs) (hx : xs.length + 1 < scanBound)
    (h : ∀ (h' : Heap) (tk c : Nat), Cnt xs xs.length c → h'.SetOf (PySem.strKind prog w) s.heap.objs.size (Has xs xs.length) c → (∀ q o, s.heap.get? q = some o → h'.get? q = some o) → Q (.ref s.heap.objs.size) { s with heap := h', toks := tk }) :
    wpAny (model prog w) A (call (.type "set") [.ref l]) Q E s := by
  obtain ⟨_, _, hmro⟩ := PySem.F.called_set.mro
  have hmade := PySem.F.called_set.made
  have hsub := PySem.F.called_set.sub
  have h1 := PySem.F.called_set.notType
  have h2 := PySem.F.called_set.canCreate
  have hct := PySem.F.typeCall_set_1 (.ref l)
  refine wpAny_call (codeAny_of_tree (wpAny_pure (a := _) ⟨Code.quiet_builtin _ (by decide +kernel), codeAny_builtin PySem.F.entry_type_call ?_⟩))
  rw [Around.under_plain (weight_type_call_type "set" [.ref l] []) rfl]
  repeat (any_goals (first | assumption | wp_step))
  refine codeAny_mono (code_set_new_1 (.ref l) (E := E) (Q₁ := fun v s1 => ∃ led, v = .ref s.heap.objs.size ∧ s1 = { s with heap := s.heap.push (setObj led) }) fun led => ⟨led, rfl, rfl⟩) fun r s1 hr => ?_
  match r, hr with
  | .ok (.ret v), hr =>
    obtain ⟨led, rfl, rfl⟩ := hr
    have hS : (s.heap.push (setObj led)).get? s.heap.objs.size = some (setObj led) := Heap.get?_push_size _ rfl
    have hT : Shared.TypeIs { s with heap := s.heap.push (setObj led) } (.ref s.heap.objs.size) "set" := ⟨_, hS, rfl⟩
    have hli := PySem.F.called_set.init.lookup
    have hbi := PySem.F.called_set.init.bind (.ref s.heap.objs.size)
    repeat (any_goals (first | assumption | wp_step))
    refine codeAny_mono (init_tx (E := E) (by simp [hh]) hl hi hx) fun r s2 hr => ?_
    match r, hr with
    | .ok (.ret v), hr =>
      obtain ⟨rfl, h', tk, c, rfl, hc, ho, keep⟩ := hr
      repeat (any_goals (first | assumption | wp_step))
      exact h h' tk c hc ho keep
    | .error e, hr => exact hr
    | .ok .next, hr => exact hr.elim
    | .ok .brk, hr => exact hr.elim
    | .ok .cont, hr => exact hr.elim
  | .error e, hr => exact hr
  | .ok .next, hr => exact hr.elim
  | .ok .brk, hr => exact hr.elim
  | .ok .cont, hr => exact hr.elim
end
/-- len(set(t)), t a tuple of texts: how many different ones, so far as it matters here -/
def tLenSetTx (K : PySem.W.Frag) (ta : TE) : TE := fun σ H Q => ta σ H fun x H1 => ∃ (l : Addr) (xs : List Str), x = .ref l ∧ SqT K H1 l (xs.map V.str) ∧ xs.length < 64 ∧ ∀ c : Nat, c ≤ xs.length → (c = xs.length ↔ xs.Nodup) → Q (.int c) H1
theorem pe_lenSetTx {X : Cx} {a : Expr} {ta : TE} {p p2 q pos : Pos} (hg : Gl X "len") (hm : X.mg "len" = none) (hg2 : Gl X "set") (hm2 : X.mg "set" = none) (ha : PE X a ta) (hc : X.calm = true := by rfl)
    (na : starEach [a] X.env = (false, eval a X.env) :: starEach [] X.env := by rfl) : PE X (.Call (.Name "len" p) [.Call (.Name "set" p2) [a] [] q] [] pos) (tLenSetTx X.K ta) := by
  refine ⟨fun pins s σ H Q I h => Call_ (ld_blt I hg hm boot_len (PyProof.Rows.callWith_builtin1 (PyProof.Rows.args_cons (Call_ (ld_blt I hg2 hm2 boot_set (PyProof.Rows.callWith_type1 (PyProof.Rows.args_cons (thn (ha.run pins s σ H _ I h) fun v s1 ⟨x, H1, I1, r1, q1⟩ => PyProof.Rows.args_nil ?_) na) na rfl))) rfl) rfl rfl))⟩
  obtain ⟨l, xs, rfl, ht, few, q1⟩ := q1
  obtain rfl : v = Value.ref l := r1
  obtain ⟨its, rv, pl, _⟩ := I1.tuple ht
  refine call_set_tx (I1.ok.hd hc) pl (by simpa using strsAre_of rv) (by unfold scanBound; omega) fun h' tk c hcn hS keep => PyProof.Rows.args_nil ?_
  obtain ⟨o, es, ep, tb, ho, hex, hd, _, _, _, hf, hn⟩ := hS
  have I2 : Inv X pins σ H1 { s1 with heap := h', toks := tk } := I1.kept keep
  obtain ⟨c1, c2⟩ := hcn
  rw [List.take_length] at c2
  exact call_len_set ho hex hd hf (by rw [hn]; omega) ⟨.int c, H1, I2.tok _, ⟨_, by rw [hn]⟩, q1 c c1 c2⟩
end El

set_option Elab.async false
set_option linter.all false
set_option maxRecDepth 100000
set_option maxHeartbeats 4000000
/-! Own words: enumerate(t) of a tuple. -/
namespace El
open PySem PySem.Spec PyProof.Rows L2
open AutoSeq1 (wpAny_loadPart')
/-- the tuple at a, each item in a new pair with its place -/
def IteT (K : PySem.W.Frag) (a : Addr) : It where
  go := fun i H => ∃ (xs : List V) (x : V), SqT K H a xs ∧ xs[i]? = some x
  yld := fun i H v H' => ∃ T x, v = .ref T ∧ H T = none ∧ H' = upd H T (.tup [.int (i : Nat), x]) ∧ ∀ xs, SqT K H a xs → xs[i]? = some x
  stop := fun i H => ∃ xs : List V, SqT K H a xs ∧ xs.length ≤ i
theorem walk_enumT {K : PySem.W.Frag} {a : Addr} {xs : List V} : Walk (IteT K a) xs.length (fun H => SqT K H a xs) (YPair (fun i => some (.int (i : Nat))) (fun i => xs[i]?)) where
  goes := fun i _ hi q => ⟨xs, xs[i], q, by simp [hi]⟩
  stops := fun _ q => ⟨xs, q, Nat.le_refl _⟩
  yields := fun i H v H' _ q y => by
    obtain ⟨T, x, h1, h2, h3, h4⟩ := y
    exact ⟨T, .int (i : Nat), x, h1, h2, h3, rfl, h4 xs q⟩
/-- the object of an enumerate over it, at its beginning -/
def enObj (it : Addr) : Obj := { cls := .type "enumerate", data := .fields #[.none, .bool false, .ref it, rawInt 0, .none, .none] }
theorem enum_newT (t : Addr) (items : Array Value) (n : Nat) (dct : Option Addr) (sl : Array (Option Value)) :
    Meets (Builtin.«enumerate.__new__» ⟨[.type "enumerate", .ref t], []⟩) (fun _ R s => s.heap.get? t = some ⟨.type "tuple", dct, .seq items n, sl⟩ ∧ R (.ok (.ret (.ref (s.heap.push (tiObj t)).objs.size))) { s with heap := (s.heap.push (tiObj t)).push (enObj s.heap.objs.size) }) :=
  .of_wp fun prog w A R s h => by
    obtain ⟨hp, g, d, tk, os⟩ := s
    obtain ⟨ht, h⟩ := h
    have hsub := sub_enumerate
    have hT : Heap.IsTuple (Shared.heap ⟨hp, g, d, tk, os⟩) t items := ⟨_, ht, rfl, n, rfl⟩
    wp_walk using wpAny_loadPart' ht
    refine wpAny_stack_any fun st => wpAny_pure ?_
    split
    · rename_i c _ _ _ _ _
      cases (c == Value.type "enumerate") <;> (wp_walk using wpAny_loadPart' ht, wpAny_pyIter_tuple hT; exact ⟨_, rfl, h⟩)
    · wp_walk using wpAny_loadPart' ht, wpAny_pyIter_tuple hT
      exact ⟨_, rfl, h⟩
section
variable {prog : Program} {w : World} {A : Around} {E : Value → Shared → Prop} {s : Shared}
theorem call_enumT {t : Addr} {items : Array Value} {Q : Value → Shared → Prop} (hT : s.heap.IsTuple t items)
    (h : ∀ h', IsEnum h' (s.heap.objs.size + 1) s.heap.objs.size 0 .none → h'.IsTupleIter s.heap.objs.size t 0 → (∀ b o, s.heap.get? b = some o → h'.get? b = some o) → Q (.ref (s.heap.objs.size + 1)) { s with heap := h' }) :
    wpAny (model prog w) A (call (.type "enumerate") [.ref t]) Q E s := by
  obtain ⟨⟨c, dct, dt, sl⟩, ht, hc, n, hd⟩ := hT
  simp only at hc hd
  subst hc hd
  refine callType_new F.called_enumerate (by decide) (F.typeCall_enumerate_1 _) (F.newCall_enumerate_1 _) (fun obj => F.args_object_init_2 obj _) F.entry_enumerate_new (enum_newT t items n dct sl) ⟨ht, ?_⟩
  have hz : (s.heap.push (tiObj t)).objs.size = s.heap.objs.size + 1 := Heap.size_push ..
  have he : IsEnum ((s.heap.push (tiObj t)).push (enObj s.heap.objs.size)) (s.heap.objs.size + 1) s.heap.objs.size 0 .none := by
    have q := Heap.get?_push_size (s.heap.push (tiObj t)) (o := enObj s.heap.objs.size) rfl
    rw [hz] at q
    exact q
  rw [hz]
  exact ⟨⟨_, he, rfl⟩, h _ he ⟨_, Heap.get?_push_of_some _ (Heap.get?_push_size _ rfl), rfl, rfl⟩ fun b o x => Heap.get?_push_of_some _ (Heap.get?_push_of_some _ x)⟩
end
theorem turn_enumT {P : Program} {w : World} {K : PySem.W.Frag} {elts : List Expr} {kk : Nat} {tpos : Pos} (t e it : Addr) (items : Array Value) :
    Turn P w K (.Tuple elts kk tpos) (IteT K t) [e, it] e (fun i h => (∃ old, IsEnum h e it ((i : Nat) : Int) old) ∧ h.IsTupleIter it t i ∧ e ≠ it ∧ t ≠ it ∧ t ≠ e) where
  mem := List.mem_cons_self
  obj := fun i h st b hb => by
    obtain ⟨⟨old, he⟩, ⟨o, ho, hc, hd⟩, _⟩ := st
    rw [List.mem_cons, List.mem_singleton] at hb
    rcases hb with z | z
    · exact z ▸ ⟨_, he, fun v q => nomatch q⟩
    · exact z ▸ ⟨o, ho, fun v q => by rw [hd] at q; cases q⟩
  keep := fun i h h' st k => by
    obtain ⟨⟨old, he⟩, hi, hne⟩ := st
    exact ⟨⟨old, k e List.mem_cons_self _ he⟩, hi.at fun o q => k it (List.mem_cons_of_mem _ List.mem_cons_self) o q, hne⟩
  item := by
    intro X hP hw hK hc i pins s σ H E I hf st hg
    subst hP hw hK
    obtain ⟨⟨old, he⟩, hit, hne, n1, n2⟩ := st
    obtain ⟨xs, x, hq, hx⟩ := hg
    obtain ⟨its, rv, p, hz⟩ := I.tuple hq
    obtain ⟨u, hu, ru⟩ := rv.get hx
    have lt : i < its.toArray.size := by
      have := (List.getElem?_eq_some_iff.mp hu).1
      simpa using this
    have le : e < s.heap.objs.size := Heap.lt_size he
    have li : it < s.heap.objs.size := by obtain ⟨_, q, _⟩ := hit; exact Heap.lt_size q
    have nf : e ∉ [it, t] := by
      rw [List.mem_cons, List.mem_singleton]
      exact fun z => z.elim hne fun z => n2 z.symm
    refine wpAny_pyNext_enum_itemD (Draws.tuple (A := X.A.in1) (by simpa using I.ok.hd hc) it t n1 its.toArray) he ⟨hit, p⟩ lt hne nf fun v h' tk hv ho hit' hT hsz hk => ?_
    obtain rfl : v = u := by
      have e1 : its.toArray[i]? = some u := by simpa using hu
      exact Option.some.inj (hv.symm.trans e1)
    refine ⟨_, rfl, wpAny_letOwnedTupleGo_enum (s := { s with heap := h', toks := tk + 1 }) ho fun h'' he' sb => ?_⟩
    have hT2 := (sb.2 _ (Nat.ne_of_gt le)).trans hT
    have new : ObjOk X.prog X.w (upd H s.heap.objs.size (.tup [.int (i : Nat), x])) h'' s.heap.objs.size (.tup [.int (i : Nat), x]) :=
      ⟨by show 2 ≤ sizeLine; decide, [.int i tk, v], .cons ⟨_, rfl⟩ (.cons ru .nil), ⟨_, hT2, rfl, _, rfl⟩⟩
    have I1 : Inv X pins σ (upd H s.heap.objs.size (.tup [.int (i : Nat), x])) { s with heap := h'', toks := tk + 1 } := by
      refine I.turnedNew (ch := [e, it]) (fun b ob hb q => ?_) hf (Nat.le_refl _) new
      rw [List.mem_cons, List.mem_singleton, not_or] at hb
      exact (sb.2 b hb.1).trans (hk b ob hb.1 hb.2 q)
    refine ⟨.ref s.heap.objs.size, _, I1, rfl, ⟨_, x, rfl, I.hok.fresh (Nat.le_refl _), rfl, fun ys hy => by rw [I.tuple_inj hy hq]; exact hx⟩, ⟨⟨v, ?_⟩, hit'.1.at fun o q => (sb.2 it (Ne.symm hne)).trans q, hne, n1, n2⟩, fun b hb => ?_⟩
    · have e1 : ((i + 1 : Nat) : Int) = (i : Int) + 1 := by omega
      rw [e1]
      exact he'
    · have lb : b < s.heap.objs.size := by
        rw [List.mem_cons, List.mem_singleton] at hb
        rcases hb with z | z
        · rw [z]; exact le
        · rw [z]; exact li
      rw [upd_ne (Nat.ne_of_lt lb)]
      exact (hf b hb).1
  done := by
    intro X hP hw hK hc i pins s σ H E I hf st hg
    subst hP hw hK
    obtain ⟨⟨old, he⟩, hit, hne, n1, n2⟩ := st
    obtain ⟨xs, hq, hx⟩ := hg
    obtain ⟨its, rv, p, hz⟩ := I.tuple hq
    obtain ⟨f0, f1, f2, f3, f4, f5⟩ := hf it (List.mem_cons_of_mem _ List.mem_cons_self)
    have none_ : its.toArray[i]? = none := by
      have hl := rv.length
      simp
      omega
    have D : Draws X.prog X.w X.A.in1 it [it, t] 0 (fun _ _ => False) (fun _ h => h.IsTupleIter it t i ∧ h.IsTuple t its.toArray) :=
      { live := fun _ _ st => let ⟨o, ho, _⟩ := st.1; ⟨o, ho⟩
        frame := fun _ _ _ st hk => ⟨st.1.at fun o e => hk it List.mem_cons_self o e, st.2.at fun o e => hk t (List.mem_cons_of_mem _ List.mem_cons_self) o e⟩
        item := fun _ _ _ _ z => absurd z (Nat.not_lt_zero _)
        done := fun s Q E st hE => wpAny_nextOf_tuple_end (by simpa using I.ok.hd hc) st.1 st.2 none_ hE }
    exact wpAny_pyNext_enum_endD D he ⟨hit, p⟩ fun h' eb => ⟨rfl, I.turned (t' := s.toks) (fun b o hb q => eb b o hb q) f0 f1 f3 f4 f5⟩
  self := fun A i s Q E st h => by
    obtain ⟨⟨_, he⟩, _⟩ := st
    exact wpAny_pyIter_enum he h
def iEnumT (K : PySem.W.Frag) (ta : TA) : TI := fun σ H R => ta σ H fun vs H1 => ∃ a xs, vs = [.ref a] ∧ SqT K H1 a xs ∧ R (IteT K a) H1
theorem pi_enumT {X : Cx} {e : Expr} {ta : TA} {p pos tpos : Pos} {elts : List Expr} {kk : Nat} (hg : Gl X "enumerate") (hm : X.mg "enumerate" = none) (ha : PA X [e] ta) (hs : starEach [e] X.env = [(false, eval e X.env)] := by rfl) :
    PI X (.Tuple elts kk tpos) (.Call (.Name "enumerate" p) [e] [] pos) (iEnumT X.K ta) := by
  refine ⟨fun pins s σ H R I h => Call_ (ld_blt I hg hm boot_enumerate (PyProof.Rows.callWith_type1 (thn (ha.run pos pins s σ H _ I h) fun us s1 ⟨vs, H1, I1, r1, a, xs, ex, hq, q⟩ => ?_) hs rfl))⟩
  subst ex
  obtain rfl := Vals.ref1 r1
  obtain ⟨its, rv, pt, hz⟩ := I1.tuple hq
  have la : a < s1.heap.objs.size := by obtain ⟨o, ho, _⟩ := pt; exact Heap.lt_size ho
  refine call_enumT pt fun h' he hit hk => wpAny_pyIter_enum he ?_
  refine ⟨s1.heap.objs.size + 1, [s1.heap.objs.size + 1, s1.heap.objs.size], _, _, H1, rfl, I1.kept (t' := s1.toks) hk, turn_enumT a (s1.heap.objs.size + 1) s1.heap.objs.size its.toArray, ⟨⟨.none, he⟩, hit, Nat.succ_ne_self _, Nat.ne_of_lt la, Nat.ne_of_lt (Nat.lt_succ_of_lt la)⟩, fun b hb => ?_, q⟩
  have hle : s1.heap.objs.size ≤ b := by
    rw [List.mem_cons, List.mem_singleton] at hb
    rcases hb with z | z
    · exact z ▸ Nat.le_succ _
    · exact z ▸ Nat.le_refl _
  exact I1.fpOk hle (I1.hok.fresh hle)
end El

set_option Elab.async false
set_option linter.all false
set_option maxRecDepth 100000
set_option maxHeartbeats 4000000
/-! Own words: a list or a tuple walked; own classes made, read by [..] inside a try; own exceptions without arguments. -/
namespace El
open PySem PySem.Spec PyProof.Rows L2 NdefX
section
variable {X : Cx} {tg l : Expr} {tl : TE}
def iSeq (K : PySem.W.Frag) (tl : TE) : TI := fun σ H R => tl σ H fun x H1 => ∃ a xs, x = .ref a ∧ ((SqL K H1 a xs ∧ R (Itl K a) H1) ∨ (SqT K H1 a xs ∧ R (Itt K a) H1))
theorem pi_seq (hl : PE X l tl) : PI X tg l (iSeq X.K tl) := by
  refine ⟨fun pins s σ H R I h => thn (hl.run pins s σ H _ I h) fun v s1 ⟨x, H1, I1, r1, a, xs, ex, q⟩ => ?_⟩
  subst ex
  obtain rfl : v = Value.ref a := r1
  have new : ∀ b ∈ [s1.heap.objs.size], FpOk X pins H1 b := fun b hb => by
    rw [List.mem_singleton] at hb
    exact hb ▸ I1.fpOk (Nat.le_refl _) (I1.hok.fresh (Nat.le_refl _))
  rcases q with ⟨hq, q⟩ | ⟨hq, q⟩
  · obtain ⟨its, rv, p, _⟩ := I1.list hq
    exact wpAny_pyIter_list p.isList ⟨_, _, _, _, H1, rfl, I1.kept (t' := s1.toks) fun b o e => Heap.get?_push_of_some _ e, turn_list a _, ⟨_, Heap.get?_push_size _ rfl, rfl, rfl⟩, new, q⟩
  · obtain ⟨its, rv, p, _⟩ := I1.tuple hq
    exact wpAny_pyIter_tuple p ⟨_, _, _, _, H1, rfl, I1.kept (t' := s1.toks) fun b o e => Heap.get?_push_of_some _ e, turn_tuple a _, ⟨_, Heap.get?_push_size _ rfl, rfl, rfl⟩, new, q⟩
end
theorem pi_seqK {X : Cx} {tg l : Expr} {tl : TE} (K : PySem.W.Frag) (hl : PE X l tl) (h : X.K = K := by rfl) : PI X tg l (iSeq K tl) := h ▸ pi_seq hl
section
variable {X : Cx} {CX : CXT} {k : Nat} {C f : Addr} {fd : FuncData} {ps : List Str} {ds : List Value} {dvs : List V} {sp : Sp} {E : L2.St → XK} {x : Str} {p pos : Pos} {a b e : Expr} {es : List Expr} {ta tb : TE} {t : TA}
/-- C(e, ..), what its __init__ lets out being taken where it stands -/
def tMakeS (C : Addr) (sp : Sp) (E : L2.St → XK) (t : TA) : TE := fun σ H Q => t σ H fun vs H1 => ∀ x dx, H1 x = none → H1 dx = none → dx ≠ x → sp (.ref x :: vs) (upd (upd H1 dx (.own x)) x (.ins C dx [])) (fun v H2 => v = .non ∧ Q (.ref x) H2) (E σ)
theorem run_makeS {pins : List (Addr × Obj)} {σ : L2.St} {H : Hp} {s : Shared} {Q : VK} {us : List Value} {vs : List V} {E : XK} (M : Mk X.K C f) (F : FnOk X.prog X.w X.K X.mg X.base CX k f fd ps sp) (hr : Room (k + 1) X.A) (hb : Binds X.K fd ps [])
    (hx : PassesAt CX X σ E) (I : Inv X pins σ H s) (r : Vals vs us)
    (h : ∀ x dx, H x = none → H dx = none → dx ≠ x → sp (.ref x :: vs) (upd (upd H dx (.own x)) x (.ins C dx [])) (fun v H2 => v = .non ∧ Q (.ref x) H2) E) : wpAny (model X.prog X.w) X.A (call (.ref C) us) (EP X pins σ Q) X.xe s := by
  have fresh := fun n hn => I.hok.fresh (a := n) hn
  have q := h (s.heap.objs.size + 1) s.heap.objs.size (fresh _ (Nat.le_succ _)) (fresh _ (Nat.le_refl _)) (Nat.ne_of_lt (Nat.lt_succ_self _))
  have J := Inv.made (C := C) I
  have rr : Vals (V.ref (s.heap.objs.size + 1) :: vs) (Value.ref (s.heap.objs.size + 1) :: us) := .cons rfl r
  have hl : (Value.ref (s.heap.objs.size + 1) :: us ++ []).length = ps.length := by rw [List.append_nil, ← rr.length]; exact F.len _ _ _ _ q
  have bt := hb _ (Value.ref (s.heap.objs.size + 1) :: us) J.kIn hl
  rw [List.append_nil] at bt
  refine wpAny_call (make_map (f := f) I.kIn M.makes M.init (beq_iff_eq.mp M.fn) (codeAny_mono (F.run _ X.stack _ _ ⟨Value.ref (s.heap.objs.size + 1) :: us, []⟩ _ _ _ E (hr.make C us []) (J.env0.make C us []) bt rr q) fun r s' hs => ?_))
  match r, hs with
  | .error e, hs => exact hx pins _ _ e s' J hs
  | .ok (.ret u), hs =>
    obtain ⟨v, H', J', rv, ev, q'⟩ := J.after hs
    subst ev
    exact ⟨rv, V.ref (s.heap.objs.size + 1), H', J', rfl, q'⟩
  | .ok .next, hs => exact False.elim hs
  | .ok .brk, hs => exact False.elim hs
  | .ok .cont, hs => exact False.elim hs
theorem pe_makeS (M : Mk X.K C f) (F : FnOk X.prog X.w X.K X.mg X.base CX k f fd ps sp) (hr : Room (k + 1) X.A) (hg : Gl X x) (hm : X.mg x = some (.ref C)) (hb : Binds X.K fd ps []) (hx : ∀ σ, PassesAt CX X σ (E σ)) (ha : PA X (e :: es) t)
    (hdb : (x == ("__debug__" : Str)) = false := by decide) (he : starEach (e :: es) X.env = (false, eval e X.env) :: starEach es X.env := by rfl) (hpl : (backTo pos (starEach es X.env)).any (·.1) = false := by rfl) :
    PE X (.Call (.Name x p) (e :: es) [] pos) (tMakeS C sp E t) := by
  refine ⟨fun pins s σ H Q I h => wpAny_Call_Name_kw (ld_glob I hg hm ?_ hdb)⟩
  refine PySem.W.callWith_K (h₀ := X.base) I.ok.mod.kin M.kp (thn (ha.run pos pins s σ H _ I h) fun us s1 ⟨vs, H1, I1, r, q⟩ => ⟨I1.kIn, ?_⟩) he hpl
  exact run_makeS M F hr hb (hx σ) I1 r q
/-- an own class's `__getitem__`, as it is read by [..] -/
structure SubC (K : PySem.W.Frag) (C f : Addr) : Prop where
  at_ : PySem.W.findIn K (.ref C) "__getitem__" = some (some (.ref f))
  fn : PySem.W.isFn K (.ref f) = true
  fi : PySem.W.fnIn K f = true
/-- a[y], a of the class at C, what it lets out being taken where it stands -/
def tItS (C : Addr) (sp : Sp) (E : L2.St → XK) (ta tb : TE) : TE := fun σ H Q => ta σ H fun x H1 => tb σ H1 fun y H2 => ∃ a dx fs, x = .ref a ∧ H2 a = some (.ins C dx fs) ∧ sp [.ref a, y] H2 Q (E σ)
theorem pe_itS (c : SubC X.K C f) (F : FnOk X.prog X.w X.K X.mg X.base CX k f fd ps sp) (hr : Room (k + 1) X.A) (hb : Binds X.K fd ps []) (hx : ∀ σ, PassesAt CX X σ (E σ)) (ha : PE X a ta) (hb2 : PE X b tb)
    (hs : ∀ o i, subscripted b true o i = runValue (.builtin "lifetime.subscript" ⟨[o, i], []⟩) := by intro _ _; rfl) : PE X (.Subscript a b pos) (tItS C sp E ta tb) := by
  refine ⟨fun pins s σ H Q I h => Subscript_ (binT ha hb2 I (R := fun x y H2 => ∃ a dx fs, x = .ref a ∧ H2 a = some (.ins C dx fs) ∧ sp [.ref a, y] H2 Q (E σ)) h fun v u s2 x y H2 I2 rx ry q => ?_)⟩
  obtain ⟨a, dx, fs, rfl, ea, q⟩ := q
  obtain rfl : v = Value.ref a := rx
  obtain ⟨m, fr⟩ := I2.fr
  obtain ⟨mA, O, _⟩ := ins_get I2.hok ea
  obtain ⟨od, J, _⟩ := O.look
  refine PySem.W.sub_K fr I2.ok.mod.kin J c.at_ c.fi c.fn ?_ (hs _ _)
  have hl : ([Value.ref a, u] ++ []).length = ps.length := F.len _ _ _ _ q
  have bt := hb s2 [.ref a, u] I2.kIn hl
  rw [List.append_nil] at bt
  refine wpAny_call (codeAny_mono (F.run X.A.in1 X.stack s2 H2 ⟨[.ref a, u], []⟩ [.ref a, u] [.ref a, y] Q (E σ) hr.in1 I2.env0.in1 bt (.cons rfl (.cons ry .nil)) q) fun r s' hq => ?_)
  match r, hq with
  | .error e, hq => exact hx σ pins H2 s2 e s' I2 hq
  | .ok (.ret u), hq => exact I2.after hq
  | .ok .next, hq => exact False.elim hq
  | .ok .brk, hq => exact False.elim hq
  | .ok .cont, hq => exact False.elim hq
end
section
variable {X : Cx} {CX : CXT} {k : Nat} {C f : Addr} {fd : FuncData} {ps : List Str} {sp : Sp} {E : XK} {pos : Pos} {a b : Expr} {ta tb : TE}
theorem pe_itO (c : SubC X.K C f) (F : FnOk X.prog X.w X.K X.mg X.base CX k f fd ps sp) (hr : Room (k + 1) X.A) (hb : Binds X.K fd ps []) (hx : Passes CX X E) (ha : PE X a ta) (hb2 : PE X b tb)
    (hs : ∀ o i, subscripted b true o i = runValue (.builtin "lifetime.subscript" ⟨[o, i], []⟩) := by intro _ _; rfl) : PE X (.Subscript a b pos) (tItS C sp (fun _ => E) ta tb) :=
  pe_itS c F hr hb (fun σ pins H s e s' I h => hx pins σ H s e s' I h) ha hb2 hs
end
/-! ### an own exception made without arguments -/
section
variable {X : Cx} {p pos : Pos}
theorem pmk_oex0 {CX : CXT} {x : Str} {C fI : Addr} {k : Nat} {fd : FuncData} {ps : List Str} {sp : Sp} (T : OexC X.K C) (iC : PySem.W.findIn X.K (.ref C) "__init__" = some (some (.ref fI))) (tI : PySem.W.typeIn X.K (.ref fI) = some (.type "function"))
    (F1 : FnOk X.prog X.w X.K X.mg X.base CX k fI fd ps sp) (hr : Room (k + 1) X.A) (hb : Binds X.K fd ps []) (hx : Passes CX X (fun _ _ _ => False)) (hg : Gl X x) (hm : X.mg x = some (.ref C)) (hdb : (x == ("__debug__" : Str)) = false := by decide) :
    PMk X (.Call (.Name x p) [] [] pos) (tMkO C sp [] tNil) := by
  intro pins s σ H Q I h
  obtain ⟨nm, q, N, bs, bm, sn, sub, ab, col, dd, k0, k1, k2, k3, k5, hC, hbm⟩ := T.cls
  refine wpAny_Call_Name_kw (ld_glob I hg hm ?_ hdb)
  refine PySem.W.callWith_K0 I.kIn T.kC ?_
  obtain ⟨_, q1⟩ := h
  obtain ⟨hp, g, dr, tk, os⟩ := s
  have up : hp.objs.size ≤ hp.objs.size + 1 := Nat.le_succ _
  have hq := q1 (hp.objs.size + 1) (I.hok.fresh up)
  have stay : ∀ b o, hp.get? b = some o → ((hp.push (PySem.W.kdv_tup [])).push (PySem.HandSPX.excO C hp.objs.size)).get? b = some o := fun b o e => Heap.get?_push_of_some _ (Heap.get?_push_of_some _ e)
  have there : ((hp.push (PySem.W.kdv_tup [])).push (PySem.HandSPX.excO C hp.objs.size)).get? (hp.objs.size + 1) = some (PySem.HandSPX.excO C hp.objs.size) := by heap_get
  have I2 := I.laid (t' := tk) (a := hp.objs.size + 1) (o := exo (hp.objs.size + 1) C none) (h' := (hp.push (PySem.W.kdv_tup [])).push (PySem.HandSPX.excO C hp.objs.size)) stay up (exo_ok there)
  have hl : ([Value.ref (hp.objs.size + 1)] ++ []).length = ps.length := F1.len _ _ _ _ hq
  refine wpAny_call (PySem.HandSPX.call_own F.excBase_ValueError (fun Y => PySem.HandSPX.refsVE_contains Y bm hbm) (I.kIn _ _ hC) (PySem.W.looks_findIn I.kIn iC) (fun self => PySem.W.bind_fn I.kIn self tI) (Nat.zero_le _)
    (codeAny_mono (F1.run _ X.stack _ _ ⟨[Value.ref (hp.objs.size + 1)], []⟩ [Value.ref (hp.objs.size + 1)] _ _ (fun _ _ _ => False) (hr.make C [] []) (I2.env0.make C [] []) (hb _ [Value.ref (hp.objs.size + 1)] I2.kIn hl) (show Vals [V.ref (hp.objs.size + 1)] [Value.ref (hp.objs.size + 1)] from .cons rfl .nil) hq) fun r s' hs => ?_))
  match r, hs with
  | .error er, hs => exact hx pins σ _ _ er s' I2 hs
  | .ok (.ret u), hs =>
    obtain ⟨v, H2, os2, bare2, un2, hok2, rv, ev, d, fs, ea, ed, hd1, q2⟩ := hs
    subst ev
    obtain ⟨h2, g2, d2, t2, os'⟩ := s'
    exact ⟨rv, mk_end (raises_own T.exC T.tyC) I up stay un2 hok2 os2 bare2 ea ed hd1 q2⟩
  | .ok .next, hs => exact False.elim hs
  | .ok .brk, hs => exact False.elim hs
  | .ok .cont, hs => exact False.elim hs
end
/-! ### lists turned round, places of items -/
theorem mt_reverseL {X : Cx} : MtM X "list.reverse" (fun x vs H Q => ∃ l xs, x = .ref l ∧ vs = [] ∧ H l = some (.lst xs) ∧ Q .non (upd H l (.lst xs.reverse))) := by
  intro pins s σ H x vs v us Q I rx rv h
  obtain ⟨l, xs, rfl, rfl, hH, q⟩ := h
  obtain rfl : v = Value.ref l := rx
  obtain rfl := rv.zero
  obtain ⟨z, its, n, r, hl, e⟩ := I.lstM hH
  have few : its.length ≤ sizeLine := by rw [← r.length]; omega
  refine call_meets F.slot_list_reverse ⟨_, e, rfl⟩ F.entry_list_reverse (F.args_list_reverse_1 _) (AutoSeq1.list_reverse_list_0 l its.toArray n (by simpa using few)) ⟨e, ?_⟩
  exact ⟨.non, _, I.lset (its' := its.reverse) (ys := xs.reverse) hH e (by simp) r.reverse (by rw [List.length_reverse]; omega), rfl, q⟩
theorem mindexK {X : Cx} (K : PySem.W.Frag) (h : X.K = K := by rfl) : MtR X "list.index" (rIndex K) := h ▸ mt_index
theorem mtupK {X : Cx} (K : PySem.W.Frag) (h : X.K = K := by rfl) : MtR X "tuple.index" (fun x xs H Q => ∃ p, ∃ ys : List Str, ∃ z j, x = .ref p ∧ xs = [.str z] ∧ SqT K H p (ys.map V.str) ∧ ys[j]? = some z ∧ (∀ m, m < j → ys[m]? ≠ some z) ∧ Q (.int (j : Nat)) H) := h ▸ mt_tup_index
/-! ### defs of own classes, ready to be called -/
structure CalIn (P : Program) (w : World) (K : PySem.W.Frag) (mg : Str → Option Value) (base : Heap) (CX : CXT) (k : Nat) (C f : Addr) (fd : FuncData) (ps : List Str) (sp : Sp) : Prop extends CalB P w K mg base CX k f fd ps sp where
  ic : InC K C f
structure CalSub (P : Program) (w : World) (K : PySem.W.Frag) (mg : Str → Option Value) (base : Heap) (CX : CXT) (k : Nat) (C f : Addr) (fd : FuncData) (ps : List Str) (sp : Sp) : Prop extends CalB P w K mg base CX k f fd ps sp where
  su : SubC K C f
structure CalIt (P : Program) (w : World) (K : PySem.W.Frag) (mg : Str → Option Value) (base : Heap) (CX : CXT) (k : Nat) (C f : Addr) (sp : Nat → Sp) : Prop where
  F : FnS P w K mg base CX k f sp
  oi : OitC K C f
end El

set_option Elab.async false
set_option linter.all false
set_option maxRecDepth 100000
set_option maxHeartbeats 4000000
/-! Own words: an own exception whose __init__ takes nothing and keeps nothing. -/
namespace El
open PySem PySem.Spec PyProof.Rows L2 NdefX
/-- its __init__ -/
def spE0 (C : Addr) : Sp := fun vs H Q _ => ∃ a : Addr, vs = [.ref a] ∧ H a = some (exo a C none) ∧ Q .non H
/-- the end of C(): the exception is let go -/
theorem mk_none {X : Cx} {pins : List (Addr × Obj)} {σ : L2.St} {H1 : Hp} {Q : XK} {hp hp2 h2 : Heap} {g1 g2 : Array GenState} {d1 d2 : Drawn} {t1 t2 : Nat} {os1 os2 : OsState} {a C : Addr} (T : Raises X (.ref C)) (I1 : Inv X pins σ H1 ⟨hp, g1, d1, t1, os1⟩)
    (ha : hp.objs.size ≤ a) (k : ∀ b o, hp.get? b = some o → hp2.get? b = some o) (un : Un (frs X.stack) [] (upd H1 a (exo a C none)) (upd H1 a (exo a C none)) hp2 h2) (hok : HOk X.prog X.w (upd H1 a (exo a C none)) h2) (ho : os2 = os1) (hb : AllBare g2)
    (q : Q (.ref C) none H1) : MkP X pins σ Q (.ref a) ⟨h2, g2, d2, t2, os2⟩ := by
  have ea : (upd H1 a (exo a C none)) a = some (exo a C none) := upd_same
  obtain ⟨t0, hoe⟩ := exo_at hok ea
  have na : H1 a = none := I1.hok.fresh ha
  obtain ⟨G, g1', g2'⟩ := restrict h2 fun b => decide (b ≠ a)
  have gk : ∀ {b}, b ≠ a → G.get? b = h2.get? b := fun {b} z => g1' b (decide_eq_true z)
  have ge : G.get? a = none := g2' a (by simp)
  have old : ∀ {b : Addr} {o : Obj}, hp.get? b = some o → b ≠ a := fun {b o} z => Nat.ne_of_lt (Nat.lt_of_lt_of_le (Heap.lt_size z) ha)
  have up : ∀ {b : Addr}, b ≠ a → H1 b = none → upd H1 a (exo a C none) b = none := fun {b} z n => by rw [upd_ne z]; exact n
  have U : Un (frs X.stack) [] H1 H1 hp G :=
    { keep := fun b o z n hf hx => (gk (old z)).trans (un.keep b o (k b o z) (up (old z) n) hf hx)
      slot := fun b o z n hf hx => by
        rw [gk (old z)]
        exact un.slot b o (k b o z) (up (old z) n) hf hx
      free := fun b o z n hx => n
      there := fun b o z hx => by
        rw [gk (old z)]
        exact un.there b o (k b o z) hx
      tups := fun b xs z => z
      frzs := fun b o v z => z
      tbls := fun b ps z => ⟨#[], by rw [Array.append_empty]; exact z⟩ }
  have own_ne : ∀ {b c : Addr}, upd H1 a (exo a C none) c = some (.own b) → c ≠ a := fun {b c} z => at_ne ea z exo_own
  have hok3 : HOk X.prog X.w H1 G := fun b o z => by
    have hba : b ≠ a := fun e => by rw [e, na] at z; cases z
    refine (hok b o (by rw [upd_ne hba]; exact z)).stay (fun c v hc y => ?_) (fun c hc => ?_) (fun c xs hc => ?_)
    · have hca : c ≠ a := hc.elim (fun e => e ▸ hba) fun e => own_ne e
      exact (gk hca).trans y
    · have := own_ne hc
      rwa [upd_ne this] at hc
    · have := at_ne ea hc exo_tup
      rwa [upd_ne this] at hc
  have J : Inv X pins σ H1 ⟨G, g2, d2, t2, os2⟩ := I1.call' (ch := []) ho U hok3 hb (fun b z => absurd z (by simp))
  refine ⟨a, _, _, ⟨G, g2, d2, t2, os2⟩, _, .ref C, none, rfl, J, fun b o z => ?_, ge, hoe, ⟨rfl, rfl⟩, rfl, rfl, na, rfl, hb, T, q⟩
  by_cases hba : b = a
  · rw [hba, ge] at z
    cases z
  · exact (gk hba).symm.trans z
section
variable {X : Cx} {p pos : Pos}
theorem pmk_none {CX : CXT} {x : Str} {C fI : Addr} {k : Nat} {fd : FuncData} {ps : List Str} (T : OexC X.K C) (iC : PySem.W.findIn X.K (.ref C) "__init__" = some (some (.ref fI))) (tI : PySem.W.typeIn X.K (.ref fI) = some (.type "function"))
    (F1 : FnOk X.prog X.w X.K X.mg X.base CX k fI fd ps (spE0 C)) (hr : Room (k + 1) X.A) (hb : Binds X.K fd ps []) (hx : Passes CX X (fun _ _ _ => False)) (hg : Gl X x) (hm : X.mg x = some (.ref C)) (hdb : (x == ("__debug__" : Str)) = false := by decide) :
    PMk X (.Call (.Name x p) [] [] pos) (fun _ H Q => Q (.ref C) none H) := by
  intro pins s σ H Q I h
  obtain ⟨nm, q, N, bs, bm, sn, sub, ab, col, dd, k0, k1, k2, k3, k5, hC, hbm⟩ := T.cls
  refine wpAny_Call_Name_kw (ld_glob I hg hm (PySem.W.callWith_K0 I.kIn T.kC ?_) hdb)
  obtain ⟨hp, g, dr, tk, os⟩ := s
  have up : hp.objs.size ≤ hp.objs.size + 1 := Nat.le_succ _
  have hq : spE0 C [V.ref (hp.objs.size + 1)] (upd H (hp.objs.size + 1) (exo (hp.objs.size + 1) C none)) (fun v H2 => v = .non ∧ H2 = upd H (hp.objs.size + 1) (exo (hp.objs.size + 1) C none)) (fun _ _ _ => False) := ⟨_, rfl, upd_same, rfl, rfl⟩
  have stay : ∀ b o, hp.get? b = some o → ((hp.push (PySem.W.kdv_tup [])).push (PySem.HandSPX.excO C hp.objs.size)).get? b = some o := fun b o e => Heap.get?_push_of_some _ (Heap.get?_push_of_some _ e)
  have there : ((hp.push (PySem.W.kdv_tup [])).push (PySem.HandSPX.excO C hp.objs.size)).get? (hp.objs.size + 1) = some (PySem.HandSPX.excO C hp.objs.size) := by heap_get
  have I2 := I.laid (t' := tk) (a := hp.objs.size + 1) (o := exo (hp.objs.size + 1) C none) (h' := (hp.push (PySem.W.kdv_tup [])).push (PySem.HandSPX.excO C hp.objs.size)) stay up (exo_ok there)
  have hl : ([Value.ref (hp.objs.size + 1)] ++ []).length = ps.length := F1.len _ _ _ _ hq
  refine wpAny_call (PySem.HandSPX.call_own F.excBase_ValueError (fun Y => PySem.HandSPX.refsVE_contains Y bm hbm) (I.kIn _ _ hC) (PySem.W.looks_findIn I.kIn iC) (fun self => PySem.W.bind_fn I.kIn self tI) (Nat.zero_le _)
    (codeAny_mono (F1.run _ X.stack _ _ ⟨[Value.ref (hp.objs.size + 1)], []⟩ [Value.ref (hp.objs.size + 1)] _ _ (fun _ _ _ => False) (hr.make C [] []) (I2.env0.make C [] []) (hb _ [Value.ref (hp.objs.size + 1)] I2.kIn hl) (show Vals [V.ref (hp.objs.size + 1)] [Value.ref (hp.objs.size + 1)] from .cons rfl .nil) hq) fun r s' hs => ?_))
  match r, hs with
  | .error er, hs => exact hx pins σ _ _ er s' I2 hs
  | .ok (.ret u), hs =>
    obtain ⟨v, H2, os2, bare2, un2, hok2, rv, ev, eH⟩ := hs
    subst ev eH
    obtain ⟨h2, g2, d2, t2, os'⟩ := s'
    exact ⟨rv, mk_none (raises_own T.exC T.tyC) I up stay un2 hok2 os2 bare2 h⟩
  | .ok .next, hs => exact False.elim hs
  | .ok .brk, hs => exact False.elim hs
  | .ok .cont, hs => exact False.elim hs
end
/-- the class, its __init__, ready for a raise -/
structure CalE0 (P : Program) (w : World) (K : PySem.W.Frag) (mg : Str → Option Value) (base : Heap) (k : Nat) (x : Str) (C f : Addr) (fd : FuncData) (ps : List Str) : Prop where
  G : FnOk P w K mg base CX0 k f fd ps (spE0 C)
  b : Binds K fd ps []
  X : ExK K C f []
  m : mg x = some (.ref C)
/-- isinstance(e, c), e the exception that the suite holds, without a dict -/
theorem call_isN {X : Cx} {a : Addr} {oe : Obj} {cls : Value} {d : Option Addr} {pn : List (Addr × Obj)} (hz : Zc cls d oe) (hf : ∃ vs, oe.data = .fields vs) : CallR (X.suite a ((a, oe) :: pn)) (.builtin "isinstance") (fun xs H Q => rIsX X.K cls d a xs H Q ∨ ∃ (D : Addr) (c : V) (cv : Value) (b : Bool), xs = [.ref a, c] ∧ cls = .ref D ∧ d = none ∧ ExcC X.K D ∧ (∀ u, RelV c u → u = cv) ∧ PySem.W.kitOne X.K (.ref D) cv = some b ∧ Q (.bl b) H) := by
  intro pins s σ H xs us Q I r h
  rcases h with h | ⟨D, c, cv, b, rfl, rfl, rfl, C, hcv, e, q⟩
  · exact call_isX hz hf pins s σ H xs us Q I r h
  cases r with
  | cons rx rr =>
    cases rr with
    | cons rt rr =>
      cases rr
      cases rx
      have ec := hcv _ rt
      subst ec
      obtain ⟨hget, _⟩ := I.pin (a, oe) (List.mem_append.mpr (.inl List.mem_cons_self))
      obtain ⟨vs, hv⟩ := hf
      have J : PySem.W.InstAt s.heap a oe D none := ⟨hget, hz.1, by unfold PySem.W.notCls; rw [hv] <;> rfl, by rw [hz.2]; exact trivial⟩
      obtain ⟨cdD, hcD, _⟩ := PySem.W.any_some C.hd
      exact PySem.W.kia_one (PySem.W.kitx_exc (by rw [hcD]; rfl) C.hg C.hk C.hs C.ha C.hn C.ht C.hm) I.kIn J e (fun z => nomatch z) fun tk => ⟨.bl b, H, I.kept (t' := tk) fun _ _ z => z, rfl, q⟩
end El

set_option Elab.async false
set_option linter.all false
set_option maxRecDepth 100000
set_option maxHeartbeats 4000000
/-! Own words: comprehensions with two clauses, walk in walk. -/
namespace El
open PySem PySem.Spec PyProof.Rows L2
/-- the second clause's loop, from which Nx is reached -/
def Inner2 (J1 : It) (g1 : TG) (tt1 : TT) (te : TE) (σ2 : L2.St) (vs1 : List Nat) (D : Addr) (Nx : Hp → Prop) (H4 : Hp) : Prop :=
  ∃ W1 : Nat → Nat → Hp → Prop, (∃ m, W1 0 m H4) ∧ ∀ j k H, W1 j k H → (J1.stop j H ∧ Nx H) ∨ (J1.go j H ∧ ∃ Nx1 : Hp → Prop, (∀ H', Nx1 H' → ∃ k', k' < k ∧ W1 (j + 1) k' H') ∧ ∀ x H', J1.yld j H x H' → g1 x (wipe σ2 vs1) H' fun σ3 H5 => wipe σ3 vs1 = wipe σ2 vs1 ∧ tt1 σ3 H5 fun b H6 =>
    if b = true then te σ3 H6 fun y H7 => ∃ acc, H7 D = some (.lst acc) ∧ acc.length < sizeLine ∧ Nx1 (upd H7 D (.lst (acc ++ [y]))) else Nx1 H6)
theorem inner2_it {J1 : It} {n : Nat} {G : Hp → Prop} {Y : Nat → Hp → V → Hp → Prop} (w : Walk J1 n G Y) {g1 : TG} {tt1 : TT} {te : TE} {σ2 : L2.St} {vs1 : List Nat} {D : Addr} {Nx : Hp → Prop} {H4 : Hp} (Pv : Nat → Hp → Prop) (h0 : Pv 0 H4) (hG : ∀ j H, j ≤ n → Pv j H → G H)
    (hs : ∀ j x H H', j < n → Pv j H → Y j H x H' → g1 x (wipe σ2 vs1) H' fun σ3 H5 => wipe σ3 vs1 = wipe σ2 vs1 ∧ tt1 σ3 H5 fun b H6 =>
      if b = true then te σ3 H6 fun y H7 => ∃ acc, H7 D = some (.lst acc) ∧ acc.length < sizeLine ∧ Pv (j + 1) (upd H7 D (.lst (acc ++ [y]))) else Pv (j + 1) H6)
    (hd : ∀ H, Pv n H → Nx H) : Inner2 J1 g1 tt1 te σ2 vs1 D Nx H4 := by
  refine ⟨fun j k H => k = n - j ∧ j ≤ n ∧ Pv j H, ⟨n, by simp, Nat.zero_le _, h0⟩, ?_⟩
  rintro j k H ⟨rfl, hj, p⟩
  have q := hG j H hj p
  by_cases e : j < n
  · exact .inr ⟨w.goes j H e q, Pv (j + 1), fun H' p' => ⟨n - (j + 1), by omega, rfl, e, p'⟩, fun x H' y => hs j x H H' e p (w.yields j H x H' e q y)⟩
  · obtain rfl : j = n := by omega
    exact .inl ⟨w.stops H q, hd H p⟩
theorem lc2_it {J : It} {n : Nat} {G : Hp → Prop} {Y : Nat → Hp → V → Hp → Prop} (w : Walk J n G Y) {g : TG} {tt : TT} {wi1 : TI} {g1 : TG} {tt1 : TT} {te : TE} {vs vs1 : List Nat} {σ : L2.St} {H1 : Hp} {D : Addr} {Qd : Hp → Prop} (Pv : Nat → Hp → Prop) (h0 : Pv 0 (upd H1 D (.lst []))) (hG : ∀ i H, i ≤ n → Pv i H → G H)
    (hs : ∀ i x H H', i < n → Pv i H → Y i H x H' → g x (wipe σ vs) H' fun σ2 H2 => wipe σ2 vs = wipe σ vs ∧ tt σ2 H2 fun b H3 =>
      if b = true then wi1 σ2 H3 fun J1 H4 => Inner2 J1 g1 tt1 te σ2 vs1 D (Pv (i + 1)) H4 else Pv (i + 1) H3)
    (hd : ∀ H, Pv n H → Qd H) :
    ∃ W : Nat → Nat → Hp → Prop, (∃ m, W 0 m (upd H1 D (.lst []))) ∧ ∀ i m H, W i m H →
      (J.stop i H ∧ Qd H) ∨ (J.go i H ∧ ∃ Nx : Hp → Prop, (∀ H', Nx H' → ∃ m', m' < m ∧ W (i + 1) m' H') ∧ ∀ x H', J.yld i H x H' → g x (wipe σ vs) H' fun σ2 H2 => wipe σ2 vs = wipe σ vs ∧ tt σ2 H2 fun b H3 =>
        if b = true then wi1 σ2 H3 fun J1 H4 => Inner2 J1 g1 tt1 te σ2 vs1 D Nx H4 else Nx H3) := by
  refine ⟨fun i m H => m = n - i ∧ i ≤ n ∧ Pv i H, ⟨n, by simp, Nat.zero_le _, h0⟩, ?_⟩
  rintro i m H ⟨rfl, hi, p⟩
  have q := hG i H hi p
  by_cases e : i < n
  · exact .inr ⟨w.goes i H e q, Pv (i + 1), fun H' p' => ⟨n - (i + 1), by omega, rfl, e, p'⟩, fun x H' y => hs i x H H' e p (w.yields i H x H' e q y)⟩
  · obtain rfl : i = n := by omega
    exact .inl ⟨w.stops H q, hd H p⟩
/-- tuple(p), p a list or a tuple: a tuple of the same items stands behind it -/
theorem tupS {X : Cx} : CallR X (.type "tuple") (fun xs H Q => ∃ p ys, xs = [.ref p] ∧ (H p = some (.lst ys) ∨ H p = some (.tup ys)) ∧ ∀ H1 t, (∀ b o, H b = some o → H1 b = some o) → H1 t = some (.tup ys) → Q (.ref t) H1) := cwk call_tuple_of fun xs H Q q => by
  obtain ⟨p, ys, rfl, hp, q⟩ := q
  rcases hp with hp | hp
  · refine ⟨p, ys, rfl, .inl ⟨SqL.of hp, fun l nl => q _ l (fun b o hb => ?_) upd_same⟩⟩
    rw [upd_ne (fun e => by rw [e, nl] at hb; cases hb)]
    exact hb
  · exact ⟨p, ys, rfl, .inr ⟨SqT.of hp, q H p (fun _ _ h => h) hp⟩⟩
end El

set_option Elab.async false
set_option linter.all false
set_option maxRecDepth 100000
set_option maxHeartbeats 4000000
/-! Own words: operators of own classes with a text, t[::-1] of a tuple. -/
namespace El
open PySem PySem.Spec PyProof.Rows L2
/-! ### a op z, a of the class at C, z a text -/
section
variable {X : Cx} {CX : CXT} {k : Nat} {C f : Addr} {fd : FuncData} {ps : List Str} {sp : Sp} {E : L2.St → XK} {op : Operator} {a b : Expr} {ta tb : TE} {pos : Pos}
def tTxtS (C : Addr) (sp : Sp) (E : L2.St → XK) (ta tb : TE) : TE := fun σ H Q => ta σ H fun x H1 => tb σ H1 fun y H2 => ∃ a dx fs z, x = .ref a ∧ y = .str z ∧ H2 a = some (.ins C dx fs) ∧ sp [.ref a, .str z] H2 Q (E σ)
theorem run_opS {pins : List (Addr × Obj)} {σ : L2.St} {H : Hp} {s : Shared} {Q : VK} {y a : Addr} {z : Str} {t : PySem.Tok} (c : OpT X.K C f op "str") (F : FnOk X.prog X.w X.K X.mg X.base CX k f fd ps sp) (hr : Room k X.A) (hb : Binds X.K fd ps []) (hx : PassesAt CX X σ (E σ)) (I : Inv X pins σ H s)
    {dx : Addr} {fs : List (Str × V)} (ea : H a = some (.ins C dx fs)) (q : sp [.ref a, .str z] H Q (E σ)) : wpAny (model X.prog X.w) X.A (binaryOp op (.ref a) (.str z t)) (EP X pins σ Q) X.xe s := by
  obtain ⟨m, fr⟩ := I.fr
  obtain ⟨mA, O, _⟩ := ins_get I.hok ea
  obtain ⟨od, J, _⟩ := O.look
  obtain ⟨rc, hr1, hr2⟩ := c.hr
  obtain ⟨fo, h1⟩ := c.h1
  obtain ⟨ro, h2⟩ := c.h2
  refine PySem.W.ksp_binT fr I.ok.mod.kin J (T := "str") rfl c.c.sf c.c.at_ c.c.fn hr1 hr2 h1 h2 c.sub ?_
  exact wpAny_mono (run_fnS (us := [.ref a, .str z t]) (vs := [.ref a, .str z]) F hr hb hx I (.cons rfl (.cons ⟨t, rfl⟩ .nil)) q) (fun u' s' h' => cmpBack_of h') fun _ _ z => z
theorem pe_bopTS (c : OpT X.K C f op "str") (F : FnOk X.prog X.w X.K X.mg X.base CX k f fd ps sp) (hr : Room k X.A) (hb : Binds X.K fd ps []) (hx : ∀ σ, PassesAt CX X σ (E σ)) (ha : PE X a ta) (hb2 : PE X b tb) : PE X (.BinOp a op b pos) (tTxtS C sp E ta tb) := by
  refine ⟨fun pins s σ H Q I h => wpAny_BinOp (thn (ha.run pins s σ H _ I h) fun v s1 ⟨x, H1, I1, rx, q1⟩ => thn (hb2.run pins s1 σ H1 _ I1 q1) fun u s2 ⟨y, H2, I2, ry, a, dx, fs, z, ex, ey, ea, q⟩ => ?_)⟩
  subst ex ey
  obtain rfl : v = Value.ref a := rx
  obtain ⟨t, rfl⟩ := ry
  exact run_opS (y := a) c F hr hb (hx σ) I2 ea q
end
section
variable {X : Cx} {CX : CXT} {k : Nat} {C f : Addr} {fd : FuncData} {ps : List Str} {sp : Sp} {E : XK} {op : Operator} {a b : Expr} {ta tb : TE} {pos : Pos}
theorem pe_bopT (c : OpT X.K C f op "str") (F : FnOk X.prog X.w X.K X.mg X.base CX k f fd ps sp) (hr : Room k X.A) (hb : Binds X.K fd ps []) (hx : Passes CX X E) (ha : PE X a ta) (hb2 : PE X b tb) : PE X (.BinOp a op b pos) (tTxtS C sp (fun _ => E) ta tb) :=
  pe_bopTS c F hr hb (fun σ pins H s e s' I h => hx pins σ H s e s' I h) ha hb2
end
/-! ### z + a, z a text: __radd__ -/
structure RadC (K : PySem.W.Frag) (C f : Addr) : Prop where
  sf : PySem.W.selfFirst K C = true
  add : ∃ g : Addr, PySem.W.findIn K (.ref C) (PySem.dunder "add") = some (some (.ref g))
  at_ : PySem.W.findIn K (.ref C) (PySem.dunderR "add") = some (some (.ref f))
  fn : PySem.W.isFn K (.ref f) = true
section
open PySem.W PySem.Calls
variable {prog : Program} {w : World} {A : Around} {E : Value → Shared → Prop} {s : Shared} {K : PySem.W.Frag} {x C f : Addr} {ox : Obj} {od : Option Obj}
theorem rad_run {z : Str} {t : PySem.Tok} {Q : Value → Shared → Prop} (X : K.In s.heap) (I : PySem.W.InstAt s.heap x ox C od) (c : RadC K C f)
    (h : wpAny (model prog w) A (call (.ref f) [.ref x, .str z t]) (PySem.W.CmpBack Q) E s) : wpAny (model prog w) A (binaryOp .Add (.str z t) (.ref x)) Q E s := by
  obtain ⟨cd, rest, hcd, hm⟩ := PySem.W.ksp_first c.sf
  obtain ⟨gm, hg⟩ := c.add
  have one := PySem.W.ksp_try X I c.at_ c.fn h
  obtain ⟨hh, g, d, tt, os⟩ := s
  have L1 : Looks (model prog w) hh (typeOf (.str z t)) (.type "str") := Looks.of_pure rfl
  have L2 : Looks (model prog w) hh (typeOf (.ref x)) (.ref C) := I.type
  have L3 : Looks (model prog w) hh (fillsNumberSlot (.type "str") "add") false := Looks.of_pure PySem.noFill_str_add
  have L4 : Looks (model prog w) hh (fillsNumberSlot (.ref C) "add") true := fills_K X hcd hm hg
  have hne : (Value.type "str" == Value.ref C) = false := Bool.eq_false_iff.mpr fun q => by cases beq_iff_eq.mp q
  have hi : Operator.Add.info = ("+", "add") := rfl
  simp only [binaryOp, hi]
  refine wpAny_holding (wpAny_bind ?_)
  unfold binaryOp1
  refine wpAny_bind (L1.at (wpAny_bind (L2.at (wpAny_bind (L3.at ?_)))))
  simp only [hne, Bool.false_eq_true, if_false]
  ksp_lk
  refine wpAny_mono one (fun r s' hr' => ?_) fun _ _ e => e
  obtain ⟨v, rfl, hq⟩ := hr'
  first
    | exact wpAny_bind (wpAny_rule (wpAny_pure (wpAny_pure hq)))
    | (ksp_lk; exact hq)
end
section
variable {X : Cx} {CX : CXT} {k : Nat} {C f : Addr} {fd : FuncData} {ps : List Str} {sp : Sp} {E : L2.St → XK} {a b : Expr} {ta tb : TE} {pos : Pos}
def tRadS (C : Addr) (sp : Sp) (E : L2.St → XK) (ta tb : TE) : TE := fun σ H Q => ta σ H fun x H1 => tb σ H1 fun y H2 => ∃ a dx fs z, x = .str z ∧ y = .ref a ∧ H2 a = some (.ins C dx fs) ∧ sp [.ref a, .str z] H2 Q (E σ)
theorem pe_radS (c : RadC X.K C f) (F : FnOk X.prog X.w X.K X.mg X.base CX k f fd ps sp) (hr : Room k X.A) (hb : Binds X.K fd ps []) (hx : ∀ σ, PassesAt CX X σ (E σ)) (ha : PE X a ta) (hb2 : PE X b tb) : PE X (.BinOp a .Add b pos) (tRadS C sp E ta tb) := by
  refine ⟨fun pins s σ H Q I h => wpAny_BinOp (thn (ha.run pins s σ H _ I h) fun v s1 ⟨x, H1, I1, rx, q1⟩ => thn (hb2.run pins s1 σ H1 _ I1 q1) fun u s2 ⟨y, H2, I2, ry, a, dx, fs, z, ex, ey, ea, q⟩ => ?_)⟩
  subst ex ey
  obtain ⟨t, rfl⟩ := rx
  obtain rfl : u = Value.ref a := ry
  obtain ⟨mA, O, _⟩ := ins_get I2.hok ea
  obtain ⟨od, J, _⟩ := O.look
  refine rad_run I2.kIn J c ?_
  exact wpAny_mono (run_fnS (us := [.ref a, .str z t]) (vs := [.ref a, .str z]) F hr hb (hx σ) I2 (.cons rfl (.cons ⟨t, rfl⟩ .nil)) q) (fun u' s' h' => cmpBack_of h') fun _ _ z => z
end
/-! ### a += z -/
structure InpC (K : PySem.W.Frag) (C f : Addr) (op : Operator) : Prop where
  sf : PySem.W.selfFirst K C = true
  at_ : PySem.W.findIn K (.ref C) (PySem.dunderI op.info.2) = some (some (.ref f))
  fn : PySem.W.isFn K (.ref f) = true
section
variable {X : Cx} {CX : CXT} {k : Nat} {C f : Addr} {fd : FuncData} {ps : List Str} {sp : Sp} {E : L2.St → XK} {op : Operator} {x : Str} {i : Nat} {e : Expr} {te : TE} {pos pos' : Pos}
/-- a name's own object op= a text, what it lets out being taken where it stands -/
def tAugTS (i : Nat) (C : Addr) (sp : Sp) (E : L2.St → XK) (te : TE) : TS := fun D σ H => ∃ a, σ[i]? = some (some (V.ref a)) ∧ te σ H fun y H1 => ∃ dx fs z, y = .str z ∧ H1 a = some (.ins C dx fs) ∧ sp [.ref a, .str z] H1 (fun v H2 => D.nx (σ.set i (some v)) H2) (E σ)
theorem ps_augTS (hN : X.N.Nodup) (hi : X.N[i]? = some x) (hx0 : Loc X.env.scope x) (c : InpC X.K C f op) (F : FnOk X.prog X.w X.K X.mg X.base CX k f fd ps sp) (hr : Room k X.A) (hb : Binds X.K fd ps []) (hx : ∀ σ, PassesAt CX X σ (E σ)) (he : PE X e te)
    (hf : X.fn x = true ∨ X.env.scope.names.lookup x = some .local := by first | exact .inl rfl | exact .inr rfl | assumption) : PS X (.AugAssign (.Name x pos') op e pos) (tAugTS i C sp E te) := by
  refine ⟨fun pins s σ H D I h => ?_⟩
  obtain ⟨a, e1, h⟩ := h
  obtain ⟨m, hn, hl⟩ := I.loc
  have vis : Vis X.env.scope x := hx0.elim (fun k => .inl k) fun k => .inr (.inl k)
  obtain ⟨u, r, l⟩ := hl i x _ hi e1 vis
  obtain rfl : u = Value.ref a := r
  refine wpAny_AugAssign_Name ?_
  have go : wpAny (model X.prog X.w) X.A (eval e X.env) (fun w s₂ => wpAny (model X.prog X.w) X.A (inplaceOp op (.ref a) w) (fun r s₃ => wpAny (model X.prog X.w) X.A (storeName X.env x r) (fun _ => SP X pins D .next) X.xe s₃) X.xe s₂) X.xe s := by
    refine thn (he.run pins s σ H _ I h) fun w s1 ⟨y, H1, I1, r1, dx, fs, z, ey, ea, q⟩ => ?_
    subst ey
    obtain ⟨t, rfl⟩ := r1
    obtain ⟨m1, fr⟩ := I1.fr
    obtain ⟨mA, O, _⟩ := ins_get I1.hok ea
    obtain ⟨od, J, _⟩ := O.look
    have run := PySem.W.ksp_inplace (b := .str z t) fr I1.ok.mod.kin J c.sf c.at_ c.fn (wpAny_mono (run_fnS (us := [.ref a, .str z t]) (vs := [.ref a, .str z]) F hr hb (hx σ) I1 (.cons rfl (.cons ⟨t, rfl⟩ .nil)) q) (fun u' s' h' => cmpBack_of h') fun _ _ z => z)
    exact thn run fun z s2 ⟨zv, H2, I2, r2, q2⟩ => store_ok I2 hN hi hx0 r2 (fun s3 I3 => ⟨_, H2, I3, q2⟩) hf
  rcases l with ⟨hk, hm⟩ | ⟨hk, c, hc, hcell⟩
  · exact wpAny_loadName_local I.ok.kind hk hn hm go
  · have no : ∀ q : NameKind, X.env.scope.names.lookup x = some .free → X.env.scope.names.lookup x = some q → q = .free := fun q h1 h2 => (Option.some.inj (h1.symm.trans h2)).symm
    rcases hk with hk | hk
    · exact wpAny_loadName_cell I.ok.kind hk hc hcell go
    · rcases hx0 with k | k
      · exact nomatch no _ hk k
      · exact nomatch no _ hk k
end
/-! ### t[::-1] -/
section
variable {prog : Program} {w : World} {A : Around} {E : Value → Shared → Prop} {s : Shared}
theorem adjust_rev (n : Nat) : Builtin.Slice.sliceAdjust none none (-1) (n : Int) = ((n : Int) - 1, -1) := rfl
theorem places_rev (n : Nat) : Builtin.Slice.slicePlaces ((n : Int) - 1) (-1) (-1) = n := by
  unfold Builtin.Slice.slicePlaces
  rw [if_neg (by decide)]
  by_cases h : (n : Int) - 1 > -1
  · rw [if_pos h]
    have : ((n : Int) - 1 - -1 - 1) / (- -1) = (n : Int) - 1 := by
      rw [show (- -1 : Int) = 1 by decide, Int.ediv_one]
      omega
    rw [this]
    omega
  · rw [if_neg h]
    omega
theorem fm_congr {f g : Nat → Option Value} : ∀ {l : List Nat}, (∀ x ∈ l, f x = g x) → l.filterMap f = l.filterMap g
  | [], _ => rfl
  | y :: r, h => by
    have h1 := h y List.mem_cons_self
    have h2 := fm_congr (l := r) fun x hx => h x (List.mem_cons_of_mem _ hx)
    cases e : g y with
    | none => rw [List.filterMap_cons_none (h1.trans e), List.filterMap_cons_none e, h2]
    | some v => rw [List.filterMap_cons_some (h1.trans e), List.filterMap_cons_some e, h2]
theorem pick_rev (xs : Array Value) : ((List.range xs.size).filterMap fun (k : Nat) => xs[((xs.size : Int) - 1 + (k : Int) * -1).toNat]?).toArray = xs.toList.reverse.toArray := by
  have e : ∀ k ∈ List.range xs.size, (fun (k : Nat) => xs[((xs.size : Int) - 1 + (k : Int) * -1).toNat]?) k = (xs.toList.reverse)[k]? := fun k hk => by
    have hk := List.mem_range.mp hk
    have e1 : ((xs.size : Int) - 1 + (k : Int) * -1).toNat = xs.size - 1 - k := by omega
    show xs[((xs.size : Int) - 1 + (k : Int) * -1).toNat]? = _
    rw [e1, List.getElem?_reverse (by simpa using hk), Array.getElem?_toList, Array.length_toList]
  rw [fm_congr e]
  congr 1
  have all : ∀ l : List Value, (List.range l.length).filterMap (fun k => l[k]?) = l := fun l => by
    induction l with
    | nil => rfl
    | cons y r ih =>
      rw [List.length_cons, List.range_succ_eq_map, List.filterMap_cons_some (f := fun k => (y :: r)[k]?) (b := y) rfl, List.filterMap_map]
      exact congrArg (y :: ·) ih
  have := all xs.toList.reverse
  rw [List.length_reverse, Array.length_toList] at this
  exact this
theorem applied_rev {sl : Addr} {vs : Value} {n : Nat} {Q : Int × Int × Nat → Shared → Prop} (hs : s.heap.IsSliceOf sl .none .none vs) (pv : IsPart vs (some (-1))) (h : Q ((n : Int) - 1, -1, n) s) : wpAny (model prog w) A (Builtin.Slice.sliceApplied (.ref sl) (pure (n : Int))) Q E s := by
  obtain ⟨os, hos, hcs, hds⟩ := id hs
  unfold Builtin.Slice.sliceApplied Builtin.Slice.sliceFields
  refine wpAny_bind (wpAny_bind (wpAny_field hos hds (x := .none) rfl (wpAny_bind (wpAny_field hos hds (x := .none) rfl (wpAny_bind (wpAny_field hos hds (x := vs) rfl (wpAny_pure ?_)))))))
  refine wpAny_bind (HT.slicePart_ pv ?_)
  show wpAny _ _ (if ((-1 : Int) == 0) = true then _ else _) _ _ s
  rw [if_neg (by decide)]
  refine wpAny_bind (slicePart_none (wpAny_bind (slicePart_none (wpAny_bind (wpAny_pure ?_)))))
  show wpAny _ _ (pure ((n : Int) - 1, (-1 : Int), Builtin.Slice.slicePlaces ((n : Int) - 1) (-1) (-1))) _ _ s
  rw [places_rev]
  exact wpAny_pure h
theorem getItem_rev {t sl : Addr} {items : Array Value} {vs : Value} {Q : Value → Shared → Prop} (ht : IsTup s.heap t items) (hs : s.heap.IsSliceOf sl .none .none vs) (pv : IsPart vs (some (-1)))
    (h : Q (.ref s.heap.objs.size) { s with heap := s.heap.push { cls := .type "tuple", data := .seq items.toList.reverse.toArray } }) (hsz : items.size ≤ sizeLine) : wpAny (model prog w) A (getItem (.ref t) (.ref sl)) Q E s := by
  have fits : sizeOk (.seq items.toList.reverse.toArray) := by
    show items.toList.reverse.toArray.size ≤ sizeLine
    rw [List.size_toArray, List.length_reverse, Array.length_toList]
    exact hsz
  have hTs : s.TypeIs (.ref sl) "slice" := by obtain ⟨os, hos, hcs, _⟩ := hs; exact ⟨os, hos, hcs⟩
  unfold getItem
  try with_reducible refine wpAny_holding ?_
  first | refine wpAny_bind (wpAny_pure ?_) | skip
  refine wpAny_bind (wpAny_sequenceKey ht.typeIs (by decide) ?_)
  refine wpAny_bind (wpAny_callSpecial?_slot (name := Str.ofString "__getitem__") ht.typeIs PyProof.Rows.slot_tuple_getitem
    (wpAny_call_entry PyProof.Rows.slot_tuple_getitem ht.typeIs entry_tuple_getitem ?_ (args_tuple_getitem _ _)))
  refine wpAny_bind (m := Builtin.Tuple.tupleItemsOf (.ref t)) (tupleItemsOf_ ht (wpAny_bind (wpAny_typeOf hTs ?_)))
  rw [if_pos (by decide)]
  refine wpAny_bind (applied_rev hs pv ?_)
  show wpAny _ _ (if (((items.size : Int) - 1) == 0 && (-1 : Int) == 1 && items.size == items.size) = true then _ else _) _ _ s
  rw [if_neg (by rw [show ((-1 : Int) == 1) = false from rfl, Bool.and_false, Bool.false_and]; decide), pick_rev]
  first
    | exact wpAny_bind (m := Builtin.Tuple.tupleExact _) (wpAny_newObj_type (wpAny_pure ⟨_, rfl, wpAny_pure h⟩) fits)
    | exact wpAny_bind (wpAny_bind (m := Builtin.Tuple.tupleExact _) (wpAny_newObj_type (wpAny_pure (wpAny_pure ⟨_, rfl, wpAny_pure h⟩)) fits))
    | exact wpAny_bind (wpAny_bind (m := Builtin.Tuple.tupleExact _) (wpAny_newObj_type (wpAny_pure ⟨_, rfl, wpAny_pure h⟩) fits))
end
/-- t[::-1] -/
def tRevT (K : PySem.W.Frag) (te : TE) : TE := fun σ H Q => te σ H fun x H1 => ∃ a xs, x = .ref a ∧ SqT K H1 a xs ∧ ∀ p, H1 p = none → Q (.ref p) (upd H1 p (.tup xs.reverse))
theorem pe_revT {X : Cx} {e : Expr} {te : TE} {k : Nat} {p1 p2 p3 pos : Pos} (he : PE X e te) : PE X (.Subscript e (.Slice none none (some (.UnaryOp .USub (.Constant (.int 1) k p1) p2)) p3) pos) (tRevT X.K te) := by
  refine ⟨fun pins s σ H Q I h => Subscript_ (thn (he.run pins s σ H _ I h) fun v s1 ⟨x, H1, I1, r1, a, xs, ex, hx, q⟩ => ?_)⟩
  subst ex
  obtain rfl : v = Value.ref a := r1
  have step : PO X (some (.UnaryOp .USub (.Constant (.int 1) k p1) p2)) (tPart (tUn (rU fun i => .int (-i)) (tC (.int 1)))) := po_some (pe_un un_neg pe_int)
  refine wpAny_Slice (thn (po_none.run pins s1 σ H1 (fun o H2 => o = none ∧ H2 = H1) I1 ⟨rfl, rfl⟩) fun vl s2 ⟨l, H2, I2, pl, el, e2⟩ => ?_)
  subst el e2
  refine thn (po_none.run pins s2 σ H2 (fun o H3 => o = none ∧ H3 = H2) I2 ⟨rfl, rfl⟩) fun vu s3 ⟨u, H3, I3, pu, eu, e3⟩ => ?_
  subst eu e3
  refine thn (step.run pins s3 σ H3 (fun o H4 => o = some (-1) ∧ H4 = H3) I3 ⟨1, rfl, -1, rfl, rfl, rfl⟩) fun vs s4 ⟨o, H4, I4, pv, eo, e4⟩ => ?_
  subst eo e4
  obtain rfl : vl = Value.none := by cases pl; rfl
  obtain rfl : vu = Value.none := by cases pu; rfl
  have I5 : Inv X pins σ H4 { s4 with heap := s4.heap.push { cls := .type "slice", data := .fields #[.none, .none, vs] } } := I4.kept (t' := s4.toks) fun b ob q => Heap.get?_push_of_some _ q
  obtain ⟨its, r, ht, hz⟩ := I5.tuple hx
  have hlen := r.length
  show wpAny (model X.prog X.w) X.A (subscriptTail e (.Slice none none (some (.UnaryOp .USub (.Constant (.int 1) k p1) p2)) p3) (.ref a) (.ref s4.heap.objs.size)) (EP X pins σ Q) X.xe { s4 with heap := s4.heap.push { cls := .type "slice", data := .fields #[.none, .none, vs] } }
  refine tail_any (ops := [.ref a, .ref s4.heap.objs.size]) ht.typeIs PyProof.Rows.slot_tuple_getitem.lookup ?_ (by with_unfolding_all rfl)
  refine getItem_rev ht (Heap.IsSliceOf.new _ .none .none vs) pv ?_ (by rw [List.size_toArray, ← hlen]; exact hz)
  refine ⟨.ref _, _, I5.laid (t' := s4.toks) (o := .tup xs.reverse) (fun b ob q => Heap.get?_push_of_some _ q) (Nat.le_refl _) ?_, rfl, q _ (I5.hok.fresh (Nat.le_refl _))⟩
  exact ⟨by rw [List.length_reverse]; exact hz, _, r.reverse, IsTup.new _ _⟩
/-! ### defs of own classes, ready to be called -/
structure CalT (P : Program) (w : World) (K : PySem.W.Frag) (mg : Str → Option Value) (base : Heap) (CX : CXT) (k : Nat) (C : Addr) (op : Operator) (f : Addr) (fd : FuncData) (ps : List Str) (sp : Sp) : Prop extends CalB P w K mg base CX k f fd ps sp where
  ot : OpT K C f op "str"
structure CalRad (P : Program) (w : World) (K : PySem.W.Frag) (mg : Str → Option Value) (base : Heap) (CX : CXT) (k : Nat) (C f : Addr) (fd : FuncData) (ps : List Str) (sp : Sp) : Prop extends CalB P w K mg base CX k f fd ps sp where
  ra : RadC K C f
structure CalInp (P : Program) (w : World) (K : PySem.W.Frag) (mg : Str → Option Value) (base : Heap) (CX : CXT) (k : Nat) (C : Addr) (op : Operator) (f : Addr) (fd : FuncData) (ps : List Str) (sp : Sp) : Prop extends CalB P w K mg base CX k f fd ps sp where
  ip : InpC K C f op
structure CalInv (P : Program) (w : World) (K : PySem.W.Frag) (mg : Str → Option Value) (base : Heap) (CX : CXT) (k : Nat) (C f : Addr) (fd : FuncData) (ps : List Str) (sp : Sp) : Prop extends CalB P w K mg base CX k f fd ps sp where
  iv : InvC K C f
/-- one or the other reading of the same expression -/
def tEither (t1 t2 : TE) : TE := fun σ H Q => t1 σ H Q ∨ t2 σ H Q
theorem pe_either {X : Cx} {e : Expr} {t1 t2 : TE} (h1 : PE X e t1) (h2 : PE X e t2) : PE X e (tEither t1 t2) := ⟨fun pins s σ H Q I h => h.elim (h1.run pins s σ H Q I) (h2.run pins s σ H Q I)⟩
/-- what isinstance asks of an own class -/
structure IsC (K : PySem.W.Frag) (C : Addr) : Prop where
  ha : PySem.W.findIn K (.ref C) "__class__" = some (some (.builtin "object.__class__"))
  hn : PySem.W.specialIn K (.builtin "object.__class__") "__get__" = some (some (.builtin "getset_descriptor.__get__"))
  tk : PySem.W.takesIn K (.builtin "object.__class__") = some true
  hm : PySem.W.mroIn K C (.type "object") = some true
theorem ty_ins {K : PySem.W.Frag} {H : Hp} {a C dx : Addr} {fs : List (Str × V)} (e : H a = some (.ins C dx fs)) (cl : Cls K C) (i : IsC K C) : TyX K H (.ref a) (.ref C) := .base (.ins e cl i.ha i.hn i.tk i.hm)
theorem kit_self {K : PySem.W.Frag} {C : Addr} : PySem.W.kitOne K (.ref C) (.ref C) = some true := by
  unfold PySem.W.kitOne
  rw [if_pos (beq_iff_eq.mpr rfl)]
end El

set_option Elab.async false
set_option linter.all false
set_option maxRecDepth 100000
set_option maxHeartbeats 4000000
namespace K25
open PySem PySem.Spec PyProof.Rows L2 El NdefX
def topS (i : Nat) : Stmt := PySem.Challenge.pw_elseput_k25_orders_by_operators.main.body.getD i (.Pass ⟨0, 0, 0, 0⟩)
abbrev s_is_name : Stmt := topS 10
theorem sc_is_name : FnScope ["text", "letter"] ["text"] (defScope s_is_name) := ⟨rfl, rfl, rfl, by decide +kernel, rfl, by decide +kernel, by decide +kernel⟩

abbrev s_check_name : Stmt := topS 12
theorem sc_check_name : FnScope ["text"] ["text"] (defScope s_check_name) := ⟨rfl, rfl, rfl, by decide +kernel, rfl, by decide +kernel, by decide +kernel⟩

abbrev s__law_state : Stmt := topS 16
theorem sc__law_state : FnScope ["_law_script"] ["_law_script"] (defScope s__law_state) := ⟨rfl, rfl, rfl, by decide +kernel, rfl, by decide +kernel, by decide +kernel⟩

abbrev s__law_draw : Stmt := topS 17
theorem sc__law_draw : FnScope ["_law_state_here", "_law_many", "_law_first", "_law_second", "_law_third", "_law_digit"] ["_law_state_here", "_law_many"] (defScope s__law_draw) := ⟨rfl, rfl, rfl, by decide +kernel, rfl, by decide +kernel, by decide +kernel⟩

abbrev s__law_pick : Stmt := topS 18
theorem sc__law_pick : FnScope ["_law_state_here", "_law_row"] ["_law_state_here", "_law_row"] (defScope s__law_pick) := ⟨rfl, rfl, rfl, by decide +kernel, rfl, by decide +kernel, by decide +kernel⟩

abbrev s__law_mixed : Stmt := topS 19
theorem sc__law_mixed : FnScope ["_law_state_here", "_law_row", "_law_rest", "_law_result", "_law_k", "_law_at"] ["_law_state_here", "_law_row"] (defScope s__law_mixed) := ⟨rfl, rfl, rfl, by decide +kernel, rfl, by decide +kernel, by decide +kernel⟩

abbrev s__law_names : Stmt := topS 20
theorem sc__law_names : FnScope ["_law_state_here", "_law_many", "_law_letters", "_law_style", "_law_shift", "_law_code", "_law_spot", "_law_base", "_law_k", "_law_reserved", "_law_result", "_law_word"] ["_law_state_here", "_law_many"] (defScope s__law_names) := ⟨rfl, rfl, rfl, by decide +kernel, rfl, by decide +kernel, by decide +kernel⟩

abbrev s__law_is_int : Stmt := topS 21
theorem sc__law_is_int : FnScope ["_law_thing"] ["_law_thing"] (defScope s__law_is_int) := ⟨rfl, rfl, rfl, by decide +kernel, rfl, by decide +kernel, by decide +kernel⟩

abbrev s__law_same : Stmt := topS 22
theorem sc__law_same : FnScope ["_law_actual", "_law_due_here", "_law_k", "_law_key"] ["_law_actual", "_law_due_here"] (defScope s__law_same) := ⟨rfl, rfl, rfl, by decide +kernel, rfl, by decide +kernel, by decide +kernel⟩

abbrev s__law_bad_name : Stmt := topS 23
theorem sc__law_bad_name : FnScope ["_law_state_here", "_law_good", "_law_kind", "_law_reserved", "_law_spot"] ["_law_state_here", "_law_good"] (defScope s__law_bad_name) := ⟨rfl, rfl, rfl, by decide +kernel, rfl, by decide +kernel, by decide +kernel⟩

abbrev s__law_deed : Stmt := topS 24
theorem sc__law_deed : FnScope ["_law_order", "_law_kind", "_law_name", "e", "_law_thing"] ["_law_order", "_law_kind", "_law_name"] (defScope s__law_deed) := ⟨rfl, rfl, rfl, by decide +kernel, rfl, by decide +kernel, by decide +kernel⟩

abbrev s__law_due : Stmt := topS 25
theorem sc__law_due : FnScope ["_law_row", "_law_kind", "_law_name", "_law_names_here", "_law_other"] ["_law_row", "_law_kind", "_law_name", "_law_names_here"] (defScope s__law_due) := ⟨rfl, rfl, rfl, by decide +kernel, rfl, by decide +kernel, by decide +kernel⟩

abbrev s__law_fits : Stmt := topS 26
theorem sc__law_fits : FnScope ["_law_order", "_law_row", "_law_k", "_law_name"] ["_law_order", "_law_row"] (defScope s__law_fits) := ⟨rfl, rfl, rfl, by decide +kernel, rfl, by decide +kernel, by decide +kernel⟩

abbrev s_law : Stmt := topS 27
theorem sc_law : FnScope ["_law_script", "_law_state_here", "_law_names_here", "_law_row", "_law_order", "_law_alias", "_law_left", "_law_k", "_law_kind", "_law_name", "_law_due_here", "_law_told", "_law_one"] ["_law_script"] (defScope s_law) := ⟨rfl, rfl, rfl, by decide +kernel, rfl, by decide +kernel, by decide +kernel⟩

abbrev s_KeyOrder___init__ : Stmt := mthS (topS 14) 0
theorem sc_KeyOrder___init__ : FnScope ["self", "names", "name"] ["self", "names"] (defScope s_KeyOrder___init__) := ⟨rfl, rfl, rfl, by decide +kernel, rfl, by decide +kernel, by decide +kernel⟩

abbrev s_KeyOrder___getitem__ : Stmt := mthS (topS 14) 1
theorem sc_KeyOrder___getitem__ : FnScope ["self", "name", "ranks", "rank", "other"] ["self", "name"] (defScope s_KeyOrder___getitem__) := ⟨rfl, rfl, rfl, by decide +kernel, rfl, by decide +kernel, by decide +kernel⟩

abbrev s_KeyOrder___contains__ : Stmt := mthS (topS 14) 2
theorem sc_KeyOrder___contains__ : FnScope ["self", "name"] ["self", "name"] (defScope s_KeyOrder___contains__) := ⟨rfl, rfl, rfl, by decide +kernel, rfl, by decide +kernel, by decide +kernel⟩

abbrev s_KeyOrder___len__ : Stmt := mthS (topS 14) 3
theorem sc_KeyOrder___len__ : FnScope ["self"] ["self"] (defScope s_KeyOrder___len__) := ⟨rfl, rfl, rfl, by decide +kernel, rfl, by decide +kernel, by decide +kernel⟩

abbrev s_KeyOrder___iter__ : Stmt := mthS (topS 14) 4
theorem sc_KeyOrder___iter__ : FnScope ["self"] ["self"] (defScope s_KeyOrder___iter__) := ⟨rfl, rfl, rfl, by decide +kernel, rfl, by decide +kernel, by decide +kernel⟩

abbrev s_KeyOrder___add__ : Stmt := mthS (topS 14) 5
theorem sc_KeyOrder___add__ : FnScope ["self", "name"] ["self", "name"] (defScope s_KeyOrder___add__) := ⟨rfl, rfl, rfl, by decide +kernel, rfl, by decide +kernel, by decide +kernel⟩

abbrev s_KeyOrder___radd__ : Stmt := mthS (topS 14) 6
theorem sc_KeyOrder___radd__ : FnScope ["self", "name"] ["self", "name"] (defScope s_KeyOrder___radd__) := ⟨rfl, rfl, rfl, by decide +kernel, rfl, by decide +kernel, by decide +kernel⟩

abbrev s_KeyOrder___iadd__ : Stmt := mthS (topS 14) 7
theorem sc_KeyOrder___iadd__ : FnScope ["self", "name", "longer"] ["self", "name"] (defScope s_KeyOrder___iadd__) := ⟨rfl, rfl, rfl, by decide +kernel, rfl, by decide +kernel, by decide +kernel⟩

abbrev s_KeyOrder___sub__ : Stmt := mthS (topS 14) 8
theorem sc_KeyOrder___sub__ : FnScope ["self", "name", "other"] ["self", "name"] (defScope s_KeyOrder___sub__) := ⟨rfl, rfl, rfl, by decide +kernel, rfl, by decide +kernel, by decide +kernel⟩

abbrev s_KeyOrder___invert__ : Stmt := mthS (topS 14) 9
theorem sc_KeyOrder___invert__ : FnScope ["self"] ["self"] (defScope s_KeyOrder___invert__) := ⟨rfl, rfl, rfl, by decide +kernel, rfl, by decide +kernel, by decide +kernel⟩

abbrev s_BadName : Stmt := mthS (topS 2) 0
theorem sc_BadName : NdefX.NScope ["self", "name", "__class__"] ["self", "name"] ["__class__"] (defScope s_BadName) := NdefX.nscope_by (by decide +kernel)
abbrev s_UnknownName : Stmt := mthS (topS 3) 0
theorem sc_UnknownName : NdefX.NScope ["self", "name", "__class__"] ["self", "name"] ["__class__"] (defScope s_UnknownName) := NdefX.nscope_by (by decide +kernel)
abbrev s_BadOrder : Stmt := mthS (topS 5) 0
theorem sc_BadOrder : NdefX.NScope ["self", "__class__"] ["self"] ["__class__"] (defScope s_BadOrder) := NdefX.nscope_by (by decide +kernel)
abbrev s_UnknownKey : Stmt := mthS (topS 3) 0
theorem sc_UnknownKey : NdefX.NScope ["self", "name", "__class__"] ["self", "name"] ["__class__"] (defScope s_UnknownKey) := NdefX.nscope_by (by decide +kernel)
section
variable {P : Program} {w : World} {K : PySem.W.Frag} {mg : Str → Option Value} {base : Heap}
variable {t_LETTERS t_LONGEST_NAME : Tok} {a_RESERVED a_BadName a_BadOrder a_ElseputError a_KeyOrder a_UnknownKey : Addr}
structure Gs (K : PySem.W.Frag) (mg : Str → Option Value) (t_LETTERS t_LONGEST_NAME : Tok) (a_RESERVED a_BadName a_BadOrder a_ElseputError a_KeyOrder a_UnknownKey : Addr) : Prop where
  z_all : mg "all" = none
  z_bool : mg "bool" = none
  z_dict : mg "dict" = none
  z_enumerate : mg "enumerate" = none
  z_int : mg "int" = none
  z_isinstance : mg "isinstance" = none
  z_iter : mg "iter" = none
  z_len : mg "len" = none
  z_list : mg "list" = none
  z_range : mg "range" = none
  z_set : mg "set" = none
  z_str : mg "str" = none
  z_super : mg "super" = none
  z_tuple : mg "tuple" = none
  g_LETTERS : mg "LETTERS" = some (.str "abcdefghijklmnopqrstuvwxyz" t_LETTERS)
  g_LONGEST_NAME : mg "LONGEST_NAME" = some (.int 12 t_LONGEST_NAME)
  g_RESERVED : mg "RESERVED" = some (.ref a_RESERVED)
  q_RESERVED : ∀ H, SqT K H a_RESERVED [(.str "always"), (.str "never"), (.str "and"), (.str "or"), (.str "not"), (.str "when"), (.str "add"), (.str "set"), (.str "change"), (.str "tell"), (.str "refuse"), (.str "take"), (.str "look"), (.str "free"), (.str "lock"), (.str "keep"), (.str "keys"), (.str "fields")]
  g_BadName : mg "BadName" = some (.ref a_BadName)
  n_BadName : PySem.W.nsIn K mainGlobals "BadName" = some (some (.ref a_BadName))
  x_BadName : ExV K a_BadName ["name"]
  g_BadOrder : mg "BadOrder" = some (.ref a_BadOrder)
  n_BadOrder : PySem.W.nsIn K mainGlobals "BadOrder" = some (some (.ref a_BadOrder))
  x_BadOrder : ExV K a_BadOrder []
  g_ElseputError : mg "ElseputError" = some (.ref a_ElseputError)
  n_ElseputError : PySem.W.nsIn K mainGlobals "ElseputError" = some (some (.ref a_ElseputError))
  g_KeyOrder : mg "KeyOrder" = some (.ref a_KeyOrder)
  n_KeyOrder : PySem.W.nsIn K mainGlobals "KeyOrder" = some (some (.ref a_KeyOrder))
  g_UnknownKey : mg "UnknownKey" = some (.ref a_UnknownKey)
  n_UnknownKey : PySem.W.nsIn K mainGlobals "UnknownKey" = some (some (.ref a_UnknownKey))
  x_UnknownKey : ExV K a_UnknownKey ["name"]
  cl_KeyOrder : Cls K a_KeyOrder
  na_KeyOrder_names : NoAttr K a_KeyOrder "names"
  rd_KeyOrder : ClX.CRead K a_KeyOrder (.type "type")
  is_KeyOrder : IsC K a_KeyOrder
  m_BadName_ElseputError : PySem.W.exmOne K (.ref a_BadName) (.ref a_ElseputError) = some true
  m_BadOrder_ElseputError : PySem.W.exmOne K (.ref a_BadOrder) (.ref a_ElseputError) = some true
  m_UnknownKey_ElseputError : PySem.W.exmOne K (.ref a_UnknownKey) (.ref a_ElseputError) = some true
  k_BadName_BadName : PySem.W.kitOne K (.ref a_BadName) (.ref a_BadName) = some true
  k_BadName_UnknownKey : PySem.W.kitOne K (.ref a_BadName) (.ref a_UnknownKey) = some false
  k_BadName_BadOrder : PySem.W.kitOne K (.ref a_BadName) (.ref a_BadOrder) = some false
  k_BadOrder_BadName : PySem.W.kitOne K (.ref a_BadOrder) (.ref a_BadName) = some false
  k_BadOrder_UnknownKey : PySem.W.kitOne K (.ref a_BadOrder) (.ref a_UnknownKey) = some false
  k_BadOrder_BadOrder : PySem.W.kitOne K (.ref a_BadOrder) (.ref a_BadOrder) = some true
  k_UnknownKey_BadName : PySem.W.kitOne K (.ref a_UnknownKey) (.ref a_BadName) = some false
  k_UnknownKey_UnknownKey : PySem.W.kitOne K (.ref a_UnknownKey) (.ref a_UnknownKey) = some true
  k_UnknownKey_BadOrder : PySem.W.kitOne K (.ref a_UnknownKey) (.ref a_BadOrder) = some false
/-! ### the script's state -/
def stv (scr : Addr) (i v m c : Int) : List V := [.ref scr, .int i, .int v, .int m, .int c]
def DrAt (H : Hp) (st scr : Addr) : Prop := ∃ (ns : List Int) (i v m c : Int), H st = some (.lst (stv scr i v m c)) ∧ H scr = some (.lst (ns.map V.int)) ∧ ns.length ≤ 63 ∧ 0 ≤ i
theorem DrAt.ne {H : Hp} {st scr : Addr} {ns : List Int} {i v m c : Int} (h : H st = some (.lst (stv scr i v m c))) (h2 : H scr = some (.lst (ns.map V.int))) : scr ≠ st := by
  refine ne_of h2 h fun e => ?_
  injection e with e
  cases ns with
  | nil => simp [stv] at e
  | cons a r => simp [stv] at e
theorem DrAt.upd {H : Hp} {st scr : Addr} {ns : List Int} {i v m c i' v' m' c' : Int} (h : H st = some (.lst (stv scr i v m c))) (h2 : H scr = some (.lst (ns.map V.int))) (hl : ns.length ≤ 63) (h0 : 0 ≤ i') : DrAt (upd H st (.lst (stv scr i' v' m' c'))) st scr :=
  ⟨ns, i', v', m', c', upd_same, by rw [upd_ne (DrAt.ne h h2)]; exact h2, hl, h0⟩
theorem upd_id {H : Hp} {a : Addr} {o : HO} (h : H a = some o) : upd H a o = H := by
  funext b
  unfold L2.upd
  split
  · rename_i e; rw [e, h]
  · rfl
theorem DrAt.lst {H : Hp} {st scr : Addr} (h : DrAt H st scr) : ∃ l, H st = some (.lst l) := by
  obtain ⟨ns, i, v, m, c, h, _⟩ := h
  exact ⟨_, h⟩
theorem DrAt.new {H H' : Hp} {st scr : Addr} (h : DrAt H st scr) (s : Same H H') : DrAt H' st scr := by
  obtain ⟨ns, i, v, m, c, h1, h2, h3⟩ := h
  exact ⟨ns, i, v, m, c, s _ _ h1, s _ _ h2, h3⟩
theorem DrAt.at {H : Hp} {st scr p : Addr} {o : HO} (h : DrAt H st scr) (h1 : p ≠ st) (h2 : p ≠ scr) : DrAt (L2.upd H p o) st scr := by
  obtain ⟨ns, i, v, m, c, e1, e2, h3⟩ := h
  exact ⟨ns, i, v, m, c, by rw [upd_ne h1.symm]; exact e1, by rw [upd_ne h2.symm]; exact e2, h3⟩
theorem same_new {H : Hp} {p : Addr} {o : HO} (h : H p = none) : Same H (upd H p o) := fun b u q => by rw [upd_ne (ne_of_none q h)]; exact q
theorem free_new {H : Hp} {p q : Addr} {o : HO} (h : upd H p o q = none) : H q = none := by
  unfold L2.upd at h
  split at h
  · cases h
  · exact h
theorem new_ne {H : Hp} {p q : Addr} {o : HO} (h : upd H p o q = none) : q ≠ p := fun e => by rw [e, upd_same] at h; cases h
theorem len_add (a b : Str) : (a ++ b).length = a.length + b.length := by
  show (a.cps ++ b.cps).size = _
  rw [Array.size_append]
  rfl
theorem cps_add (a b : Str) : (a ++ b).cps.toList = a.cps.toList ++ b.cps.toList := by
  show (a.cps ++ b.cps).toList = _
  rw [Array.toList_append]
theorem len_cps (z : Str) : z.cps.toList.length = z.length := Array.length_toList
theorem line_of {n : Nat} (h : n ≤ 100000) : n ≤ sizeLine := Nat.le_trans h (by decide)
theorem line_lt {n : Nat} (h : n < 100000) : n < sizeLine := Nat.lt_of_lt_of_le h (by decide)
/-- all that stood stands, st's own numbers aside -/
def Bt (st : Addr) (H H' : Hp) : Prop := ∀ b o, b ≠ st → H b = some o → H' b = some o
theorem Bt.refl (st : Addr) (H : Hp) : Bt st H H := fun _ _ _ h => h
theorem Bt.trans {st : Addr} {H H1 H2 : Hp} (a : Bt st H H1) (b : Bt st H1 H2) : Bt st H H2 := fun c o n h => b c o n (a c o n h)
theorem Bt.same {st : Addr} {H H' : Hp} (s : Same H H') : Bt st H H' := fun b o _ h => s b o h
theorem Bt.st {st : Addr} {H : Hp} {o : HO} : Bt st H (upd H st o) := fun b u n h => by rw [upd_ne n]; exact h
theorem Bt.free {st : Addr} {H H' : Hp} (s : Bt st H H') {l : Addr} (n : l ≠ st) (h : H' l = none) : H l = none := by
  cases q : H l with
  | none => rfl
  | some o => rw [s l o n q] at h; cases h
theorem DrAt.ne_new {H : Hp} {st scr p : Addr} (h : DrAt H st scr) (n : H p = none) : p ≠ st := by
  obtain ⟨l, e⟩ := h.lst
  exact (ne_of_none e n).symm

theorem DrAt.ne_scr {H : Hp} {st scr p : Addr} (h : DrAt H st scr) (n : H p = none) : p ≠ scr := by
  obtain ⟨ns, i, v, m, c, e1, e2, h3⟩ := h
  exact (ne_of_none e2 n).symm

/-! ### is_name -/
abbrev letters : Str := "abcdefghijklmnopqrstuvwxyz"
abbrev resv : List V := [.str "always", .str "never", .str "and", .str "or", .str "not", .str "when", .str "add", .str "set", .str "change", .str "tell", .str "refuse", .str "take", .str "look", .str "free", .str "lock", .str "keep", .str "keys", .str "fields"]
def isName (z : Str) : Bool := if (decide ((z.length : Int) < 1) || decide ((12 : Int) < z.length) || inV (.str z) resv) = true then false else z.cps.toList.all fun c => decide (c ∈ letters.cps.toList)
def sp_is_name (K : PySem.W.Frag) : Sp := fun vs H Q _ => ∃ z : Str, vs = [.str z] ∧ z.length ≤ 1000 ∧ ∀ H', Same H H' → Q (.bl (isName z)) H'
theorem len_is_name {vs : List V} {H : Hp} {Q : VK} {E : XK} (h : sp_is_name K vs H Q E) : vs.length = 1 := by
  obtain ⟨_, rfl, _⟩ := h
  rfl
theorem ok_is_name {f : Addr} {fd : FuncData} (F : Fun K "is_name" "is_name" s_is_name f fd) (T : Gs K mg t_LETTERS t_LONGEST_NAME a_RESERVED a_BadName a_BadOrder a_ElseputError a_KeyOrder a_UnknownKey) : FnOk P w K mg base CX0 1 f fd ["text"] (sp_is_name K) := by
  refine F.ok sc_is_name (fun vs H Q E h => len_is_name h) (fun cdv A outer s H vs Q E hr h => ?_)
  obtain ⟨z, rfl, h0, q⟩ := h
  refine ⟨_, (pss_cons (ps_if (PW.pt (pw_or (pt_c op_ltM (pe_callB (lenK K) (by rfl) T.z_len PySem.boot_len (pa_cons (v_ 0) pa_nil)) pe_int) (pw_or (pt_c op_gtM (pe_callB (lenK K) (by rfl) T.z_len PySem.boot_len (pa_cons (v_ 0) pa_nil)) (pe_glob (v := .int 12) rfl T.g_LONGEST_NAME ⟨_, rfl⟩)) (pw_or1 (pt_c (inK K) (v_ 0) (pe_glob (v := .ref a_RESERVED) rfl T.g_RESERVED rfl)))))) (pss_one (ps_ret pe_bl)) pss_nil) (pss_one (ps_ret (pe_callB (allK K rfl) (by rfl) T.z_all (by decide +kernel) (pa_cons (pe_lc (own := [("letter", 1)]) (g := gName 1) (by rfl) sc_is_name.nd (pi_str (v_ 0)) (blkOk_by (N := ["text", "letter"]) (sc := defScope s_is_name) (by decide +kernel)) (fun _ _ _ _ _ => pg_name (i := 1) sc_is_name.nd rfl (Or.inl rfl)) (fun _ _ _ _ _ => pts_nil) (fun _ _ _ _ _ => (pe_c (inK K) (v_ 1) (pe_glob (v := .str "abcdefghijklmnopqrstuvwxyz") rfl T.g_LETTERS ⟨_, rfl⟩)))) pa_nil))))), ?_⟩
  refine ⟨line_of (by omega), ?_⟩
  have no : ∀ c : Bool, (decide ((z.length : Int) < 1) || decide ((12 : Int) < z.length) || inV (.str z) resv) = c → isName z = if c = true then false else z.cps.toList.all fun c => decide (c ∈ letters.cps.toList) := fun c e => by
    rw [← e]; rfl
  refine ite2 (fun e => ?_) (fun e => ?_)
  · have := q H (Same.refl H)
    rw [no true (by rw [show decide ((z.length : Int) < 1) = true from e]; rfl)] at this
    exact this
  refine ⟨line_of (by omega), ?_⟩
  refine ite2 (fun e1 => ?_) (fun e1 => ?_)
  · have := q H (Same.refl H)
    rw [no true (by rw [show decide ((12 : Int) < z.length) = true from e1, Bool.or_true]; rfl)] at this
    exact this
  refine ⟨_, .inr (T.q_RESERVED _), rfl, rfl, ?_⟩
  refine ite2 (fun e2 => ?_) (fun e2 => ?_)
  · have := q H (Same.refl H)
    rw [no true (by rw [show inV (.str z) resv = true from e2, Bool.or_true])] at this
    exact this
  have en : isName z = z.cps.toList.all fun c => decide (c ∈ letters.cps.toList) := by
    rw [no false (by rw [show decide ((z.length : Int) < 1) = false from Bool.eq_false_iff.mpr e, show decide ((12 : Int) < z.length) = false from Bool.eq_false_iff.mpr e1, show inV (.str z) resv = false from Bool.eq_false_iff.mpr e2]; rfl)]
    rfl
  refine ⟨z, rfl, fun D nD => lc_it walk_str (fun i H' => H' = upd H D (.lst (((z.cps.toList.take i).map fun c => decide (c ∈ letters.cps.toList)).map V.bl))) rfl (fun _ _ _ _ => True.intro) ?_ ?_⟩
  · rintro i x H1 H2 hi rfl ⟨rfl, c, hc, rfl⟩
    refine ⟨rfl, ?_⟩
    refine ⟨c, rfl, _, upd_same, ?_, ?_⟩
    · rw [List.length_map, List.length_map, List.length_take]
      have : z.cps.size = z.length := rfl
      exact small1000 (by omega)
    · rw [upd_upd]
      have e : z.cps.toList.take (i + 1) = z.cps.toList.take i ++ [c] := by
        rw [List.take_add_one, Array.getElem?_toList, hc]
        rfl
      rw [e, List.map_append, List.map_append]
      rfl
  · rintro H1 rfl
    rw [show z.cps.size = z.cps.toList.length from (Array.length_toList).symm, List.take_length]
    refine ⟨_, _, rfl, SqL.of upd_same, ?_⟩
    have := q _ (same_new nD (o := .lst ((z.cps.toList.map fun c => decide (c ∈ letters.cps.toList)).map V.bl)))
    rw [en] at this
    rw [List.all_map]
    exact this


end
section
variable {P : Program} {w : World} {K : PySem.W.Frag} {mg : Str → Option Value} {base : Heap}
variable {t_LETTERS t_LONGEST_NAME : Tok} {a_RESERVED a_BadName a_BadOrder a_ElseputError a_KeyOrder a_UnknownKey : Addr}
/-! ### checks -/
theorem isName_mem {z : Str} (h : isName z = true) : (∀ c ∈ z.cps.toList, c ∈ letters.cps.toList) ∧ 1 ≤ z.length ∧ z.length ≤ 12 ∧ inV (.str z) resv = false := by
  unfold isName at h
  split at h
  · exact absurd h (by decide)
  · rename_i hc
    rw [Bool.not_eq_true, Bool.or_eq_false_iff, Bool.or_eq_false_iff, decide_eq_false_iff_not, decide_eq_false_iff_not] at hc
    exact ⟨fun c hm => of_decide_eq_true (List.all_eq_true.mp h c hm), by omega, by omega, hc.2⟩
theorem letters_small : ∀ c ∈ letters.cps.toList, c < 16 ^ 8 := by decide +kernel
theorem isName_asc {z : Str} (h : isName z = true) : Asc z := fun c hc => letters_small c ((isName_mem h).1 c hc)
def BadN (K : PySem.W.Frag) (H : Hp) (z : Str) (E : XK) : Prop := ∀ (C d : Addr) (H' : Hp), PySem.W.nsIn K mainGlobals "BadName" = some (some (.ref C)) → Same H H' → H d = none → H' d = some (.xd [("name", .str z)]) → E (.ref C) (some d) H'
theorem BadN.same {K : PySem.W.Frag} {H H1 : Hp} {z : Str} {E : XK} (h : BadN K H z E) (s : Same H H1) : BadN K H1 z E := fun C d H' hC s2 nd hd => h C d H' hC (s.trans s2) (Same.free s nd) hd
def okx_BadName (ws : List V) : Prop := ∃ z : Str, ws = [.str z] ∧ z.length ≤ 1000 ∧ Asc z
def fs_BadName (ws : List V) : List (Str × V) := match ws with | [l] => [("name", l)] | _ => []
def okx_UnknownKey (ws : List V) : Prop := okx_BadName ws
def fs_UnknownKey (ws : List V) : List (Str × V) := fs_BadName ws
theorem len_spE {C : Addr} {ok : List V → Prop} {fs : List V → List (Str × V)} {n : Nat} (hn : ∀ ws, ok ws → ws.length = n) {vs : List V} {H : Hp} {Q : VK} {E : XK} (h : spE C ok fs vs H Q E) : vs.length = n + 1 := by
  obtain ⟨a, ws, rfl, h, _⟩ := h
  rw [List.length_cons, hn _ h]
theorem log_200 {i : Int} (h : i.natAbs < 2 ^ 200) : i.natAbs.log2 < 1920 := by
  by_cases hz : i.natAbs = 0
  · rw [hz]
    decide
  · exact (Nat.log2_lt hz).mpr (Nat.lt_of_lt_of_le h (Nat.pow_le_pow_right (by decide) (by decide)))
theorem ok_BadName {C f cc cda : Addr} {doc pm ct oc ccl cl : Value} {od cdd cld : Option Addr} {osl ccs csl : Array (Option Value)} {vs0 : Array Value} {file : Str} {tf : Tok} {cdD : ClassData}
    (X : ExK K C f ["name"]) (lk : K.lookup f = some ⟨oc, od, .func (PySem.W.fnX "__init__" "BadName.__init__" (defArgs s_BadName) (defBody s_BadName) (defScope s_BadName) [("__class__", cc)] .none .none doc pm none (.ref cda) ct), osl⟩)
    (hcd : PySem.W.codeIn K (.ref cda) "BadName.__init__" = true) (hcode : K.lookup cda = some ⟨ccl, cdd, .fields vs0, ccs⟩) (hvs : vs0[2]? = some (.str file tf)) (hfile : ((P.main.file : Str) == file) = true)
    (hcell : K.lookup cc = some ⟨cl, cld, .cell (some (.ref C)), csl⟩) (hD : PySem.W.clsIn K C = some cdD) (hsuper : mg "super" = none) (hop : PySem.W.nsIn K PySem.cStatics "thirdparty.any" = some none) (htop : (P.main.scope.names.lookup ("super" : Str)).isSome = false) :
    FnOk P w K mg base CX0 1 f (PySem.W.fnX "__init__" "BadName.__init__" (defArgs s_BadName) (defBody s_BadName) (defScope s_BadName) [("__class__", cc)] .none .none doc pm none (.ref cda) ct) ["self", "name"] (spE C okx_BadName fs_BadName) := by
  refine fn_super lk hcd sc_BadName hcode hvs hfile hcell hD hsuper hop rfl rfl rfl htop rfl (fun vs H Q E h => len_spE (n := 1) (fun ws h => by obtain ⟨_, rfl, _⟩ := h; rfl) h) (fun A outer s H vs Q E hr h => ?_) (fun _ => rfl) (fun _ => rfl) (fun _ => rfl)
  obtain ⟨a, ws, rfl, ⟨l, rfl, l0, l1⟩, ea, q⟩ := h
  refine ⟨a, C, _, _, rfl, ea, X.oex, X.mro, X.sup, X.subV, pa_cons (pe_joined (.cons pe_str (.cons (pe_fmtR (v_ 1)) .nil))) pa_nil, pss_one (ps_ost (v_ 0) (v_ 1)), ?_⟩
  have tl := repr_le l1 l0
  have z0 : Str.empty.length = 0 := rfl
  have z1 : (Str.ofString "not a name: ").length = 12 := rfl
  refine ⟨_, rfl, line_of (by rw [len_add]; omega), .inl ⟨_, rfl, line_of (by omega), _, rfl, line_of (by rw [len_add, len_add]; omega), ?_⟩⟩
  refine ⟨ea, (by show 1 ≤ 1000; decide), ?_⟩
  exact ⟨a, C, rfl, X.oex, X.no _ (by simp), .inl ⟨ea, ost1 ea fun dx H' n ne e1 e2 hh => q dx _ n ne e1 e2 hh⟩⟩
theorem ok_UnknownKey {C f cc cda D : Addr} {doc pm ct oc ccl cl : Value} {od cdd cld : Option Addr} {osl ccs csl : Array (Option Value)} {vs0 : Array Value} {file : Str} {tf : Tok} {cdD : ClassData}
    (X : ExI K C D f ["name"]) (lk : K.lookup f = some ⟨oc, od, .func (PySem.W.fnX "__init__" "UnknownName.__init__" (defArgs s_UnknownKey) (defBody s_UnknownKey) (defScope s_UnknownKey) [("__class__", cc)] .none .none doc pm none (.ref cda) ct), osl⟩)
    (hcd : PySem.W.codeIn K (.ref cda) "UnknownName.__init__" = true) (hcode : K.lookup cda = some ⟨ccl, cdd, .fields vs0, ccs⟩) (hvs : vs0[2]? = some (.str file tf)) (hfile : ((P.main.file : Str) == file) = true)
    (hcell : K.lookup cc = some ⟨cl, cld, .cell (some (.ref D)), csl⟩) (hD : PySem.W.clsIn K D = some cdD) (hsuper : mg "super" = none) (hop : PySem.W.nsIn K PySem.cStatics "thirdparty.any" = some none) (htop : (P.main.scope.names.lookup ("super" : Str)).isSome = false) :
    FnOk P w K mg base CX0 1 f (PySem.W.fnX "__init__" "UnknownName.__init__" (defArgs s_UnknownKey) (defBody s_UnknownKey) (defScope s_UnknownKey) [("__class__", cc)] .none .none doc pm none (.ref cda) ct) ["self", "name"] (spE C okx_UnknownKey fs_UnknownKey) := by
  refine fn_super lk hcd sc_UnknownKey hcode hvs hfile hcell hD hsuper hop rfl rfl rfl htop rfl (fun vs H Q E h => len_spE (n := 1) (fun ws h => by obtain ⟨_, rfl, _⟩ := h; rfl) h) (fun A outer s H vs Q E hr h => ?_) (fun _ => rfl) (fun _ => rfl) (fun _ => rfl)
  obtain ⟨a, ws, rfl, ⟨l, rfl, l0, l1⟩, ea, q⟩ := h
  refine ⟨a, C, _, _, rfl, ea, X.oex, X.mro, X.sup, X.subV, pa_cons (pe_joined (.cons pe_str (.cons (pe_fmtR (v_ 1)) .nil))) pa_nil, pss_one (ps_ost (v_ 0) (v_ 1)), ?_⟩
  have tl := repr_le l1 l0
  have z0 : Str.empty.length = 0 := rfl
  have z1 : (Str.ofString "unknown: ").length = 9 := rfl
  refine ⟨_, rfl, line_of (by rw [len_add]; omega), .inl ⟨_, rfl, line_of (by omega), _, rfl, line_of (by rw [len_add, len_add]; omega), ?_⟩⟩
  refine ⟨ea, (by show 1 ≤ 1000; decide), ?_⟩
  exact ⟨a, C, rfl, X.oex, X.no _ (by simp), .inl ⟨ea, ost1 ea fun dx H' n ne e1 e2 hh => q dx _ n ne e1 e2 hh⟩⟩
theorem ok_BadOrder {C f cc cda : Addr} {doc pm ct oc ccl cl : Value} {od cdd cld : Option Addr} {osl ccs csl : Array (Option Value)} {vs0 : Array Value} {file : Str} {tf : Tok} {cdD : ClassData}
    (X : ExK K C f []) (lk : K.lookup f = some ⟨oc, od, .func (PySem.W.fnX "__init__" "BadOrder.__init__" (defArgs s_BadOrder) (defBody s_BadOrder) (defScope s_BadOrder) [("__class__", cc)] .none .none doc pm none (.ref cda) ct), osl⟩)
    (hcd : PySem.W.codeIn K (.ref cda) "BadOrder.__init__" = true) (hcode : K.lookup cda = some ⟨ccl, cdd, .fields vs0, ccs⟩) (hvs : vs0[2]? = some (.str file tf)) (hfile : ((P.main.file : Str) == file) = true)
    (hcell : K.lookup cc = some ⟨cl, cld, .cell (some (.ref C)), csl⟩) (hD : PySem.W.clsIn K C = some cdD) (hsuper : mg "super" = none) (hop : PySem.W.nsIn K PySem.cStatics "thirdparty.any" = some none) (htop : (P.main.scope.names.lookup ("super" : Str)).isSome = false) :
    FnOk P w K mg base CX0 1 f (PySem.W.fnX "__init__" "BadOrder.__init__" (defArgs s_BadOrder) (defBody s_BadOrder) (defScope s_BadOrder) [("__class__", cc)] .none .none doc pm none (.ref cda) ct) ["self"] (spE0 C) := by
  refine fn_super lk hcd sc_BadOrder hcode hvs hfile hcell hD hsuper hop rfl rfl rfl htop rfl (fun vs H Q E h => by obtain ⟨_, rfl, _⟩ := h; rfl) (fun A outer s H vs Q E hr h => ?_) (fun _ => rfl) (fun _ => rfl) (fun _ => rfl)
  obtain ⟨a, rfl, ea, q⟩ := h
  exact ⟨a, C, _, _, rfl, ea, X.oex, X.mro, X.sup, X.subV, pa_cons pe_str pa_nil, pss_nil, ea, (by show 1 ≤ 1000; decide), q⟩
end
section
variable {P : Program} {w : World} {K : PySem.W.Frag} {mg : Str → Option Value} {base : Heap}
variable {t_LETTERS t_LONGEST_NAME : Tok} {a_RESERVED a_BadName a_BadOrder a_ElseputError a_KeyOrder a_UnknownKey : Addr}
def sp_check_name (K : PySem.W.Frag) : Sp := fun vs H Q E => ∃ z : Str, vs = [.str z] ∧ z.length ≤ 1000 ∧ Asc z ∧ (if isName z = true then ∀ H', Same H H' → Q .non H' else BadN K H z E)
theorem len_check_name {vs : List V} {H : Hp} {Q : VK} {E : XK} (h : sp_check_name K vs H Q E) : vs.length = 1 := by
  obtain ⟨_, rfl, _⟩ := h
  rfl
theorem ok_check_name {f : Addr} {fd : FuncData} {f_is_name : Addr} {fd_is_name : FuncData} {f_BadName : Addr} {fd_BadName : FuncData} (F : Fun K "check_name" "check_name" s_check_name f fd) (T : Gs K mg t_LETTERS t_LONGEST_NAME a_RESERVED a_BadName a_BadOrder a_ElseputError a_KeyOrder a_UnknownKey) (c_is_name : Cal P w K mg base CX0 1 "is_name" f_is_name fd_is_name ["text"] (sp_is_name K)) (c_BadName : CalE P w K mg base 1 "BadName" a_BadName f_BadName fd_BadName ["self", "name"] okx_BadName fs_BadName ["name"]) : FnOk P w K mg base (L2.CX P w) 3 f fd ["text"] (sp_check_name K) := by
  refine F.okX sc_check_name (fun vs H Q E h => len_check_name h) (fun cdv A outer s H vs Q E hr h => ?_)
  obtain ⟨z, rfl, h0, h1, q⟩ := h
  refine ⟨_, (pss_one (ps_if (pt_not (pt_t K (pe_call c_is_name.G (hr.mono (by first | decide | omega)) rfl c_is_name.m c_is_name.kp c_is_name.b .nil pass0 (pa_cons (v_ 0) pa_nil)))) (pss_one (ps_raise rfl (takes_of rfl rfl rfl rfl) (pmk_oex c_BadName.X.oex c_BadName.X.iC c_BadName.X.tI c_BadName.G (hr.mono (by first | decide | omega)) c_BadName.b .nil pass0 rfl c_BadName.m (pa_cons (v_ 0) pa_nil)))) pss_nil)), ?_⟩
  refine ⟨z, rfl, h0, fun H' s => ?_⟩
  refine ite2 (fun e => ?_) (fun e => ?_)
  · have e : ¬ isName z = true := by
      have e : (!isName z) = true := e
      rw [Bool.not_eq_true'] at e
      rw [e]
      decide
    rw [if_neg e] at q
    refine mk_spE (by show 1 ≤ 1000; decide) ⟨z, rfl, h0, h1⟩ (fun d nd => ?_)
    exact q a_BadName d _ T.n_BadName (s.trans (same_new nd)) (Same.free s nd) upd_same
  · have e : isName z = true := by
      have e : ¬ (!isName z) = true := e
      rw [Bool.not_eq_true, Bool.not_eq_false'] at e
      exact e
    rw [if_pos e] at q
    exact q H' s
end
section
variable {P : Program} {w : World} {K : PySem.W.Frag} {mg : Str → Option Value} {base : Heap}
variable {t_LETTERS t_LONGEST_NAME : Tok} {a_RESERVED a_BadName a_BadOrder a_ElseputError a_KeyOrder a_UnknownKey : Addr}
/-! ### orders -/
def OrAt (K : PySem.W.Frag) (H : Hp) (a : Addr) (zs : List Str) : Prop := ∃ C dx t : Addr, PySem.W.nsIn K mainGlobals "KeyOrder" = some (some (.ref C)) ∧ H a = some (.ins C dx [("names", .ref t)]) ∧ H t = some (.tup (zs.map V.str))
theorem OrAt.same {H H' : Hp} {a : Addr} {zs : List Str} (h : OrAt K H a zs) (s : Same H H') : OrAt K H' a zs := by
  obtain ⟨C, dx, t, h1, h2, h3⟩ := h
  exact ⟨C, dx, t, h1, s _ _ h2, s _ _ h3⟩
/-- the first that is no name -/
def bad1 (zs : List Str) : Option Str := zs.find? fun z => !isName z
def SeqS (H : Hp) (p : Addr) (zs : List Str) : Prop := H p = some (.lst (zs.map V.str)) ∨ H p = some (.tup (zs.map V.str))
theorem SeqS.same {H H' : Hp} {p : Addr} {zs : List Str} (h : SeqS H p zs) (s : Same H H') : SeqS H' p zs := h.imp (s _ _) (s _ _)
def Inits (K : PySem.W.Frag) (H : Hp) (x C dx : Addr) (zs : List Str) (Q : VK) (E : XK) : Prop := match bad1 zs with
  | some z => ∀ (B d : Addr) (H' : Hp), PySem.W.nsIn K mainGlobals "BadName" = some (some (.ref B)) → Bt x H H' → H d = none → H' d = some (.xd [("name", .str z)]) → E (.ref B) (some d) H'
  | none => if zs.Nodup then ∀ (H' : Hp) (t : Addr), Bt x H H' → H' x = some (.ins C dx [("names", .ref t)]) → H' t = some (.tup (zs.map V.str)) → Q .non H'
    else ∀ (B : Addr) (H' : Hp), PySem.W.nsIn K mainGlobals "BadOrder" = some (some (.ref B)) → Bt x H H' → E (.ref B) none H'
def sp_KeyOrder___init__ (K : PySem.W.Frag) : Sp := fun vs H Q E => ∃ (x p C dx : Addr) (zs : List Str), vs = [.ref x, .ref p] ∧ PySem.W.nsIn K mainGlobals "KeyOrder" = some (some (.ref C)) ∧ H x = some (.ins C dx []) ∧ SeqS H p zs ∧ zs.length ≤ 20 ∧ (∀ z ∈ zs, z.length ≤ 1000 ∧ Asc z) ∧ Inits K H x C dx zs Q E
theorem len_KeyOrder___init__ {vs : List V} {H : Hp} {Q : VK} {E : XK} (h : sp_KeyOrder___init__ K vs H Q E) : vs.length = 2 := by
  obtain ⟨_, _, _, _, _, rfl, _⟩ := h
  rfl
theorem bad_none {zs : List Str} (h : ∀ z ∈ zs, isName z = true) : bad1 zs = none := by
  unfold bad1
  rw [List.find?_eq_none]
  intro z hz
  rw [h z hz]
  decide
theorem bad_at {zs : List Str} {i : Nat} {z : Str} (h : ∀ y ∈ zs.take i, isName y = true) (e : zs[i]? = some z) (hz : ¬ isName z = true) : bad1 zs = some z := by
  have e1 : zs = zs.take i ++ zs.drop i := (List.take_append_drop i zs).symm
  obtain ⟨hi, e2⟩ := List.getElem?_eq_some_iff.mp e
  have e3 : zs.drop i = z :: zs.drop (i + 1) := by rw [List.drop_eq_getElem_cons hi, e2]
  unfold bad1
  rw [e1, List.find?_append, e3]
  have n := bad_none h
  unfold bad1 at n
  rw [n, List.find?_cons_of_pos (by rw [Bool.eq_false_iff.mpr hz]; rfl)]
  rfl
theorem ok_KeyOrder___init__ {f : Addr} {fd : FuncData} {f_check_name : Addr} {fd_check_name : FuncData} {f_BadOrder : Addr} {fd_BadOrder : FuncData} (F : Fun K "__init__" "KeyOrder.__init__" s_KeyOrder___init__ f fd) (T : Gs K mg t_LETTERS t_LONGEST_NAME a_RESERVED a_BadName a_BadOrder a_ElseputError a_KeyOrder a_UnknownKey) (c_check_name : Cal P w K mg base (L2.CX P w) 3 "check_name" f_check_name fd_check_name ["text"] (sp_check_name K)) (c_BadOrder : CalE0 P w K mg base 1 "BadOrder" a_BadOrder f_BadOrder fd_BadOrder ["self"]) : FnOk P w K mg base (L2.CX P w) 4 f fd ["self", "names"] (sp_KeyOrder___init__ K) := by
  refine F.okX sc_KeyOrder___init__ (fun vs H Q E h => len_KeyOrder___init__ h) (fun cdv A outer s H vs Q E hr h => ?_)
  obtain ⟨x, p, C, dx, zs, rfl, hC, hx, hp, lz, hz, q⟩ := h
  cases hC.symm.trans T.n_KeyOrder
  refine ⟨_, (pss_cons (ps_fld (v_ 0) (pe_callTy tupS (by rfl) T.z_tuple (by decide +kernel) (pa_cons (v_ 1) pa_nil)) (by rfl)) (pss_cons (ps_for (passes_of rfl) rfl (pi_tup (e_f K (v_ 0))) (pg_name (i := 2) sc_KeyOrder___init__.nd rfl (.inl rfl)) (pss_one (ps_expr (pe_call c_check_name.G (hr.mono (by first | decide | omega)) rfl c_check_name.m c_check_name.kp c_check_name.b .nil (passes_call (takes_of rfl rfl rfl rfl) (fun _ _ _ _ h => h)) (pa_cons (v_ 2) pa_nil))))) (pss_one (ps_if (pt_c op_ltM (pe_lenSetTx (by rfl) T.z_len (by rfl) T.z_set (e_f K (v_ 0))) (pe_callB (lenK K) (by rfl) T.z_len PySem.boot_len (pa_cons (e_f K (v_ 0)) pa_nil))) (pss_one (ps_raise rfl (takes_of rfl rfl rfl rfl) (pmk_none c_BadOrder.X.oex c_BadOrder.X.iC c_BadOrder.X.tI c_BadOrder.G (hr.mono (by first | decide | omega)) c_BadOrder.b pass0 rfl c_BadOrder.m))) pss_nil)))), ?_⟩
  refine ⟨p, zs.map V.str, rfl, hp, fun H1 t s1 ht => ?_⟩
  have tx : t ≠ x := ne_of ht (s1 _ _ hx) (by intro e; cases e)
  refine ⟨x, a_KeyOrder, dx, [], rfl, s1 _ _ hx, T.cl_KeyOrder, T.na_KeyOrder_names, by decide, ?_⟩
  generalize hH2 : upd H1 x _ = H2
  have b1 : Bt x H H2 := fun b o nb hb => by rw [← hH2, upd_ne nb]; exact s1 _ _ hb
  have hx2 : H2 x = some (.ins a_KeyOrder dx [("names", .ref t)]) := by rw [← hH2, upd_same]; rfl
  have ht2 : H2 t = some (.tup (zs.map V.str)) := by rw [← hH2, upd_ne tx]; exact ht
  clear hH2
  refine ⟨x, a_KeyOrder, dx, _, _, rfl, hx2, T.cl_KeyOrder, T.na_KeyOrder_names, rfl, t, rfl, ⟨_, SqT.of ht2⟩, ?_⟩
  refine for_tup (K := K) (a := t) (xs := zs.map V.str) (fun i σ' H' => (∃ y, σ' = [some (.ref x), some (.ref p), y]) ∧ Same H2 H' ∧ ∀ y ∈ zs.take i, isName y = true) ⟨⟨_, rfl⟩, Same.refl _, fun _ h => nomatch h⟩ (fun i σ' H' _ h => SqT.of (h.2.1 _ _ ht2)) ?_ ?_
  · rintro i v σ' H3 hi ⟨⟨y, rfl⟩, sm, hn⟩
    rw [List.getElem?_map] at hi
    obtain ⟨z, ez, rfl⟩ := Option.map_eq_some_iff.mp hi
    obtain ⟨z1, z2⟩ := hz z (List.mem_of_getElem? ez)
    refine ⟨z, rfl, z1, z2, ?_⟩
    by_cases hnz : isName z = true
    · rw [if_pos hnz]
      refine fun H4 s4 => ⟨⟨_, rfl⟩, sm.trans s4, fun y hy => ?_⟩
      rw [take_more ez] at hy
      rcases List.mem_append.mp hy with h | h
      · exact hn y h
      · rw [List.mem_singleton.mp h]
        exact hnz
    · rw [if_neg hnz]
      unfold Inits at q
      rw [bad_at hn ez hnz] at q
      refine fun B d H4 hB s4 nd hd => q B d H4 hB (b1.trans (Bt.same (sm.trans s4))) ?_ hd
      by_cases e : H d = none
      · exact e
      · obtain ⟨o, ho⟩ := Option.ne_none_iff_exists'.mp e
        by_cases edx : d = x
        · rw [edx] at nd
          rw [sm _ _ hx2] at nd
          cases nd
        · rw [sm _ _ (b1 d o edx ho)] at nd
          cases nd
  rintro σ' H3 ⟨⟨y, rfl⟩, sm, hn⟩
  rw [List.length_map, List.take_length] at hn
  have b3 := b1.trans (Bt.same (st := x) sm)
  unfold Inits at q
  rw [bad_none hn] at q
  refine ⟨x, a_KeyOrder, dx, _, _, rfl, sm _ _ hx2, T.cl_KeyOrder, T.na_KeyOrder_names, rfl, t, zs, rfl, SqT.of (sm _ _ ht2), by omega, fun c c1 c2 => ?_⟩
  refine ⟨x, a_KeyOrder, dx, _, _, rfl, sm _ _ hx2, T.cl_KeyOrder, T.na_KeyOrder_names, rfl, ?_⟩
  refine .inl ⟨_, .inr (SqT.of (sm _ _ ht2)), ?_⟩
  rw [List.length_map]
  refine ite2 (fun e => ?_) (fun e => ?_)
  · have e : (c : Int) < zs.length := of_decide_eq_true e
    rw [if_neg (fun h => by have := c2.mpr h; omega)] at q
    exact q _ _ T.n_BadOrder b3
  · have e : ¬ (c : Int) < zs.length := of_decide_eq_false (Bool.eq_false_iff.mpr e)
    rw [if_pos (c2.mp (by omega))] at q
    exact q _ t b3 (sm _ _ hx2) (sm _ _ ht2)
end
section
variable {P : Program} {w : World} {K : PySem.W.Frag} {mg : Str → Option Value} {base : Heap}
variable {t_LETTERS t_LONGEST_NAME : Tok} {a_RESERVED a_BadName a_BadOrder a_ElseputError a_KeyOrder a_UnknownKey : Addr}
theorem inV_str {z : Str} : ∀ {xs : List Str}, inV (.str z) (xs.map V.str) = decide (z ∈ xs)
  | [] => rfl
  | a :: r => by
    have ih := inV_str (z := z) (xs := r)
    unfold inV at ih ⊢
    rw [List.map_cons, List.any_cons, ih]
    have : eqV (.str a) (.str z) = decide (z = a) := by
      show (a == z) = _
      rw [Bool.eq_iff_iff, beq_iff_eq, decide_eq_true_iff, eq_comm]
    rw [this, Bool.eq_iff_iff, Bool.or_eq_true, decide_eq_true_iff, decide_eq_true_iff, decide_eq_true_iff, List.mem_cons]
theorem flat_strs {xs : List Str} : (xs.map V.str).all flatV = true := by
  rw [List.all_map]
  exact List.all_eq_true.mpr fun _ _ => rfl
theorem take_snoc {α : Type} {xs : List α} {i : Nat} {x : α} (h : xs[i]? = some x) : xs.take (i + 1) = xs.take i ++ [x] := by
  rw [List.take_add_one, h]
  rfl
def BadO (K : PySem.W.Frag) (H : Hp) (E : XK) : Prop := ∀ (B : Addr) (H' : Hp), PySem.W.nsIn K mainGlobals "BadOrder" = some (some (.ref B)) → Same H H' → E (.ref B) none H'
def UnkN (K : PySem.W.Frag) (H : Hp) (z : Str) (E : XK) : Prop := ∀ (C d : Addr) (H' : Hp), PySem.W.nsIn K mainGlobals "UnknownKey" = some (some (.ref C)) → Same H H' → H d = none → H' d = some (.xd [("name", .str z)]) → E (.ref C) (some d) H'
theorem UnkN.same {K : PySem.W.Frag} {H H1 : Hp} {z : Str} {E : XK} (h : UnkN K H z E) (s : Same H H1) : UnkN K H1 z E := fun C d H' hC s2 nd hd => h C d H' hC (s.trans s2) (Same.free s nd) hd
/-- what making an order of zs comes to -/
def MkOut (K : PySem.W.Frag) (H : Hp) (zs : List Str) (Q : VK) (E : XK) : Prop := match bad1 zs with
  | some z => BadN K H z E
  | none => if zs.Nodup then ∀ (H' : Hp) (a : Addr), Same H H' → H a = none → OrAt K H' a zs → Q (.ref a) H' else BadO K H E
theorem made {K : PySem.W.Frag} {H H1 : Hp} {C p : Addr} {zs : List Str} {Q : VK} {E : XK} (hC : PySem.W.nsIn K mainGlobals "KeyOrder" = some (some (.ref C))) (s : Same H H1) (hp : SeqS H1 p zs) (lz : zs.length ≤ 20) (hz : ∀ z ∈ zs, z.length ≤ 1000 ∧ Asc z) (q : MkOut K H zs Q E) :
    ∀ x dx, H1 x = none → H1 dx = none → dx ≠ x → sp_KeyOrder___init__ K (.ref x :: [.ref p]) (upd (upd H1 dx (.own x)) x (.ins C dx [])) (fun v H2 => v = .non ∧ Q (.ref x) H2) E := by
  intro x dx nx nd ne
  have sm : Same H1 (upd (upd H1 dx (.own x)) x (.ins C dx [])) := fun b o hb => by
    rw [upd_ne (ne_of_none hb nx), upd_ne (ne_of_none hb nd)]
    exact hb
  have after : ∀ {H' : Hp}, Bt x (upd (upd H1 dx (.own x)) x (.ins C dx [])) H' → Same H1 H' := fun {H'} k b o hb => k b o (ne_of_none hb nx) (sm _ _ hb)
  refine ⟨x, p, C, dx, zs, rfl, hC, upd_same, hp.same sm, lz, hz, ?_⟩
  unfold MkOut at q
  unfold Inits
  cases hb : bad1 zs with
  | some z =>
    rw [hb] at q
    exact fun B d H' hB k nd' hd => q B d H' hB (s.trans (after k)) (Same.free s (free_new (free_new nd'))) hd
  | none =>
    rw [hb] at q
    by_cases hn : zs.Nodup
    · rw [if_pos hn] at q
      show if zs.Nodup then _ else _
      rw [if_pos hn]
      exact fun H' t k e1 e2 => ⟨rfl, q H' x (s.trans (after k)) (Same.free s nx) ⟨C, dx, t, hC, e1, e2⟩⟩
    · rw [if_neg hn] at q
      show if zs.Nodup then _ else _
      rw [if_neg hn]
      exact fun B H' hB k => q B H' hB (s.trans (after k))
def sp_KeyOrder___contains__ (K : PySem.W.Frag) : Sp := fun vs H Q _ => ∃ (a : Addr) (z : Str) (zs : List Str), vs = [.ref a, .str z] ∧ OrAt K H a zs ∧ Q (.bl (decide (z ∈ zs))) H
theorem len_KeyOrder___contains__ {vs : List V} {H : Hp} {Q : VK} {E : XK} (h : sp_KeyOrder___contains__ K vs H Q E) : vs.length = 2 := by
  obtain ⟨_, _, _, rfl, _⟩ := h
  rfl
theorem ok_KeyOrder___contains__ {f : Addr} {fd : FuncData} (F : Fun K "__contains__" "KeyOrder.__contains__" s_KeyOrder___contains__ f fd) (T : Gs K mg t_LETTERS t_LONGEST_NAME a_RESERVED a_BadName a_BadOrder a_ElseputError a_KeyOrder a_UnknownKey) : FnOk P w K mg base CX0 1 f fd ["self", "name"] (sp_KeyOrder___contains__ K) := by
  refine F.ok sc_KeyOrder___contains__ (fun vs H Q E h => len_KeyOrder___contains__ h) (fun cdv A outer s H vs Q E hr h => ?_)
  obtain ⟨a, z, zs, rfl, ⟨C, dx, t, hC, ha, ht⟩, q⟩ := h
  cases hC.symm.trans T.n_KeyOrder
  refine ⟨_, (pss_one (ps_ret (pe_c (inK K) (v_ 1) (e_f K (v_ 0))))), ?_⟩
  refine ⟨a, a_KeyOrder, dx, _, _, rfl, ha, T.cl_KeyOrder, T.na_KeyOrder_names, rfl, ?_⟩
  refine ⟨_, .inr (SqT.of ht), rfl, flat_strs, ?_⟩
  show Q (.bl (inV (.str z) (zs.map V.str))) H
  rw [inV_str]
  exact q
def sp_KeyOrder___len__ (K : PySem.W.Frag) : Sp := fun vs H Q _ => ∃ (a : Addr) (zs : List Str), vs = [.ref a] ∧ OrAt K H a zs ∧ Q (.int (zs.length : Int)) H
theorem len_KeyOrder___len__ {vs : List V} {H : Hp} {Q : VK} {E : XK} (h : sp_KeyOrder___len__ K vs H Q E) : vs.length = 1 := by
  obtain ⟨_, _, rfl, _⟩ := h
  rfl
theorem ok_KeyOrder___len__ {f : Addr} {fd : FuncData} (F : Fun K "__len__" "KeyOrder.__len__" s_KeyOrder___len__ f fd) (T : Gs K mg t_LETTERS t_LONGEST_NAME a_RESERVED a_BadName a_BadOrder a_ElseputError a_KeyOrder a_UnknownKey) : FnOk P w K mg base CX0 1 f fd ["self"] (sp_KeyOrder___len__ K) := by
  refine F.ok sc_KeyOrder___len__ (fun vs H Q E h => len_KeyOrder___len__ h) (fun cdv A outer s H vs Q E hr h => ?_)
  obtain ⟨a, zs, rfl, ⟨C, dx, t, hC, ha, ht⟩, q⟩ := h
  cases hC.symm.trans T.n_KeyOrder
  refine ⟨_, (pss_one (ps_ret (pe_callB (lenK K) (by rfl) T.z_len PySem.boot_len (pa_cons (e_f K (v_ 0)) pa_nil)))), ?_⟩
  refine ⟨a, a_KeyOrder, dx, _, _, rfl, ha, T.cl_KeyOrder, T.na_KeyOrder_names, rfl, ?_⟩
  refine .inl ⟨_, .inr (SqT.of ht), ?_⟩
  rw [List.length_map]
  exact q
def sp_KeyOrder___iter__ (K : PySem.W.Frag) : Nat → Sp := fun n vs H Q _ => ∃ (a : Addr) (zs : List Str), vs = [.ref a] ∧ OrAt K H a zs ∧ ∀ t it, H t = some (.tup (zs.map V.str)) → H it = none → n ≤ it → Q (.ref it) (upd H it (TitO t it))
theorem len_KeyOrder___iter__ {n : Nat} {vs : List V} {H : Hp} {Q : VK} {E : XK} (h : sp_KeyOrder___iter__ K n vs H Q E) : vs.length = 1 := by
  obtain ⟨_, _, rfl, _⟩ := h
  rfl
theorem ok_KeyOrder___iter__ {f : Addr} {fd : FuncData} (F : Fun K "__iter__" "KeyOrder.__iter__" s_KeyOrder___iter__ f fd) (B : Binds K fd ["self"] []) (T : Gs K mg t_LETTERS t_LONGEST_NAME a_RESERVED a_BadName a_BadOrder a_ElseputError a_KeyOrder a_UnknownKey) : FnS P w K mg base CX0 1 f (sp_KeyOrder___iter__ K) := by
  refine fun_okS F sc_KeyOrder___iter__ B (fun n vs H Q E h => len_KeyOrder___iter__ h) (fun cdv A outer s H vs Q E hr h => ?_)
  obtain ⟨a, zs, rfl, ⟨C, dx, t, hC, ha, ht⟩, q⟩ := h
  cases hC.symm.trans T.n_KeyOrder
  refine ⟨_, (pss_one (ps_ret (pe_callB (iterTK K s.heap.objs.size) (by rfl) T.z_iter (by decide +kernel) (pa_cons (e_f K (v_ 0)) pa_nil)))), ?_⟩
  refine ⟨a, a_KeyOrder, dx, _, _, rfl, ha, T.cl_KeyOrder, T.na_KeyOrder_names, rfl, ?_⟩
  exact ⟨t, _, rfl, SqT.of ht, fun it n1 n2 => q t it ht n1 n2⟩
def sp_KeyOrder___getitem__ (K : PySem.W.Frag) : Sp := fun vs H Q E => ∃ (a : Addr) (z : Str) (zs : List Str), vs = [.ref a, .str z] ∧ OrAt K H a zs ∧ zs.length ≤ 20 ∧ z.length ≤ 1000 ∧ Asc z ∧
  (∀ (i : Nat) (H' : Hp), zs[i]? = some z → (∀ j, j < i → zs[j]? ≠ some z) → Same H H' → Q (.int (i : Int)) H') ∧ (z ∉ zs → UnkN K H z E)
theorem len_KeyOrder___getitem__ {vs : List V} {H : Hp} {Q : VK} {E : XK} (h : sp_KeyOrder___getitem__ K vs H Q E) : vs.length = 2 := by
  obtain ⟨_, _, _, rfl, _⟩ := h
  rfl
theorem ok_KeyOrder___getitem__ {f : Addr} {fd : FuncData} {f_UnknownKey : Addr} {fd_UnknownKey : FuncData} (F : Fun K "__getitem__" "KeyOrder.__getitem__" s_KeyOrder___getitem__ f fd) (T : Gs K mg t_LETTERS t_LONGEST_NAME a_RESERVED a_BadName a_BadOrder a_ElseputError a_KeyOrder a_UnknownKey) (c_UnknownKey : CalEI P w K mg base 1 "UnknownKey" a_UnknownKey f_UnknownKey fd_UnknownKey ["self", "name"] okx_UnknownKey fs_UnknownKey ["name"]) : FnOk P w K mg base (L2.CX P w) 3 f fd ["self", "name"] (sp_KeyOrder___getitem__ K) := by
  refine F.okX sc_KeyOrder___getitem__ (fun vs H Q E h => len_KeyOrder___getitem__ h) (fun cdv A outer s H vs Q E hr h => ?_)
  obtain ⟨a, z, zs, rfl, ⟨C, dx, t, hC, ha, ht⟩, lz, z1, z2, q1, q2⟩ := h
  cases hC.symm.trans T.n_KeyOrder
  refine ⟨_, (pss_cons (ps_setLc (i := 2) (own := [("rank", 3), ("other", 4)]) (g := gTup K 2 (gCons (gName 3) (gCons (gName 4) gNil))) (by rfl) sc_KeyOrder___getitem__.nd rfl rfl (sw_true rfl rfl rfl (by decide +kernel)) (pi_enumT (by rfl) T.z_enumerate (pa_cons (e_f K (v_ 0)) pa_nil)) (blkOk_by (N := ["self", "name", "ranks", "rank", "other"]) (sc := defScope s_KeyOrder___getitem__) (by decide +kernel)) (fun _ _ _ _ _ => pg_tupK K (by rfl) (pgs_cons (pg_name (i := 3) sc_KeyOrder___getitem__.nd rfl (Or.inl rfl)) (pgs_cons (pg_name (i := 4) sc_KeyOrder___getitem__.nd rfl (Or.inl rfl)) pgs_nil))) (fun _ _ _ _ _ => pts_one (pt_c (eqK K hr.units) (v_ 4) (v_ 1))) (fun _ _ _ _ _ => (v_ 3))) (pss_cons (ps_if (pt_c (eqK K hr.units) (pe_callB (lenK K) (by rfl) T.z_len PySem.boot_len (pa_cons (v_ 2) pa_nil)) pe_int) (pss_one (ps_raise rfl (takes_of rfl rfl rfl rfl) (pmk_oex c_UnknownKey.oex c_UnknownKey.iC c_UnknownKey.tI c_UnknownKey.G (hr.mono (by first | decide | omega)) c_UnknownKey.b .nil pass0 rfl c_UnknownKey.m (pa_cons (v_ 1) pa_nil)))) pss_nil) (pss_one (ps_ret (e_x K (v_ 2) pe_int))))), ?_⟩
  refine ⟨a, a_KeyOrder, dx, _, _, rfl, ha, T.cl_KeyOrder, T.na_KeyOrder_names, rfl, ?_⟩
  refine ⟨t, _, rfl, SqT.of ht, fun D nD => ?_⟩
  refine lc_it walk_enumT (fun i H' => Same H H' ∧ ∃ ks : List Nat, H' D = some (.lst (ks.map fun k : Nat => V.int (k : Int))) ∧ ks.length ≤ i ∧ (match ks with
    | [] => ∀ j, j < i → zs[j]? ≠ some z
    | k :: _ => k < i ∧ zs[k]? = some z ∧ ∀ j, j < k → zs[j]? ≠ some z)) ⟨same_new nD, [], upd_same, Nat.le_refl _, fun j hj => absurd hj (Nat.not_lt_zero _)⟩ (fun _ _ _ h => SqT.of (h.1 _ _ ht)) ?_ ?_
  · rintro i v H1 H2 hi ⟨sm, ks, hD, lk, hk⟩ ⟨T1, x, y, rfl, nT, rfl, ex, ey⟩
    rw [List.length_map] at hi
    cases ex
    have ey : (zs.map V.str)[i]? = some y := ey
    rw [List.getElem?_map] at ey
    obtain ⟨u, eu, rfl⟩ := Option.map_eq_some_iff.mp ey
    have s2 := same_new (o := .tup [.int (i : Int), .str u]) nT
    have DT : D ≠ T1 := ne_of_none hD nT
    have hD2 : (upd H1 T1 (.tup [.int (i : Int), .str u])) D = some (.lst (ks.map fun k : Nat => V.int (k : Int))) := s2 _ _ hD
    have sm2 := sm.trans s2
    have ht1 : (upd H1 T1 (.tup [.int (i : Int), .str u])) T1 = some (.tup [.int (i : Int), .str u]) := upd_same
    generalize upd H1 T1 (.tup [.int (i : Int), .str u]) = H2 at hD2 sm2 ht1 ⊢
    refine ⟨T1, _, rfl, SqT.of ht1, rfl, _, _, rfl, _, _, rfl, rfl, rfl, ?_⟩
    refine ite2 (fun e => ?_) (fun e => ?_)
    · have e : u = z := of_decide_eq_true e
      subst e
      refine ⟨_, hD2, line_lt (by rw [List.length_map]; omega), fun b o hb => ?_, ks ++ [i], ?_, by rw [List.length_append, List.length_singleton]; omega, ?_⟩
      · rw [upd_ne (ne_of_none hb nD)]
        exact sm2 _ _ hb
      · rw [upd_same, List.map_append]
        rfl
      · cases ks with
        | nil => exact ⟨Nat.lt_succ_self _, eu, hk⟩
        | cons k r => exact ⟨Nat.lt_succ_of_lt hk.1, hk.2.1, hk.2.2⟩
    · have e : ¬ u = z := of_decide_eq_false (Bool.eq_false_iff.mpr e)
      refine ⟨sm2, ks, hD2, by omega, ?_⟩
      cases ks with
      | nil =>
        intro j hj h
        by_cases ej : j = i
        · rw [ej, eu] at h
          exact e (Option.some.inj h)
        · exact hk j (by omega) h
      | cons k r => exact ⟨Nat.lt_succ_of_lt hk.1, hk.2.1, hk.2.2⟩
  rintro H1 ⟨sm, ks, hD, lk, hk⟩
  refine .inl ⟨_, .inl (SqL.of hD), ?_⟩
  refine ite2 (fun e => ?_) (fun e => ?_)
  · have e : ks = [] := by
      have e : ((ks.map fun k : Nat => V.int (k : Int)).length : Int) = 0 := of_decide_eq_true e
      rw [List.length_map] at e
      exact List.length_eq_zero_iff.mp (by omega)
    subst e
    have nz : z ∉ zs := fun hm => by
      obtain ⟨j, hj, ej⟩ := List.getElem_of_mem hm
      exact hk j (by rw [List.length_map]; exact hj) (by rw [List.getElem?_eq_getElem hj, ej])
    refine mk_spE (by show 1 ≤ 1000; decide) ⟨z, rfl, z1, z2⟩ (fun d nd => ?_)
    exact q2 nz a_UnknownKey d _ T.n_UnknownKey (sm.trans (same_new nd)) (Same.free sm nd) upd_same
  · cases ks with
    | nil => exact absurd rfl e
    | cons k r =>
      refine ⟨_, .inl (SqL.of hD), .int (k : Int), atI_nat (j := 0) rfl, ?_⟩
      exact q1 k H1 hk.2.1 hk.2.2 sm
end
section
variable {P : Program} {w : World} {K : PySem.W.Frag} {mg : Str → Option Value} {base : Heap}
variable {t_LETTERS t_LONGEST_NAME : Tok} {a_RESERVED a_BadName a_BadOrder a_ElseputError a_KeyOrder a_UnknownKey : Addr}
def sp__law_draw (K : PySem.W.Frag) : Sp := fun vs H Q _ => ∃ (st scr : Addr) (many : Int), vs = [.ref st, .int many] ∧ DrAt H st scr ∧ 0 < many ∧ many.natAbs < 2 ^ 200 ∧
  ∀ (r : Int) (l : List V), 0 ≤ r → r < many → DrAt (upd H st (.lst l)) st scr → Q (.int r) (upd H st (.lst l))
theorem len__law_draw {vs : List V} {H : Hp} {Q : VK} {E : XK} (h : sp__law_draw K vs H Q E) : vs.length = 2 := by
  obtain ⟨_, _, _, rfl, _⟩ := h
  rfl
theorem ok__law_draw {f : Addr} {fd : FuncData} (F : Fun K "_law_draw" "_law_draw" s__law_draw f fd) (T : Gs K mg t_LETTERS t_LONGEST_NAME a_RESERVED a_BadName a_BadOrder a_ElseputError a_KeyOrder a_UnknownKey) : FnOk P w K mg base CX0 1 f fd ["_law_state_here", "_law_many"] (sp__law_draw K) := by
  refine F.ok sc__law_draw (fun vs H Q E h => len__law_draw h) (fun cdv A outer s H vs Q E hr h => ?_)
  obtain ⟨st, scr, many, rfl, ⟨ns, i, v, m, c, hst, hscr, hl, h0⟩, hm0, hm1, q⟩ := h
  have hne := DrAt.ne hst hscr
  refine ⟨_, (Evl.pss_cut (ps_if (pt_c (eqK K hr.units) (e_x K (v_ 0) pe_int) pe_int) (pss_cons (ps_if (pt_c op_geM (e_x K (v_ 0) pe_int) (pe_callB (lenK K) (by rfl) T.z_len PySem.boot_len (pa_cons (e_x K (v_ 0) pe_int) pa_nil))) (pss_one (ps_ret pe_int)) pss_nil) (pss_cons (ps_asg (pe_callTy call_intM (by rfl) T.z_int (by decide +kernel) (pa_cons (e_x K (e_x K (v_ 0) pe_int) (e_x K (v_ 0) pe_int)) pa_nil)) (pg_sub (v_ 0) pe_int set_list)) (pss_cons (ps_asg (pe_op (addK K) (e_x K (v_ 0) pe_int) pe_int) (pg_sub (v_ 0) pe_int set_list)) (pss_cons (ps_asg pe_int (pg_sub (v_ 0) pe_int set_list)) (pss_cons (ps_asg pe_int (pg_sub (v_ 0) pe_int set_list)) (pss_one (ps_if (pt_c op_ltM (e_x K (v_ 0) pe_int) (pe_op op_powM pe_int pe_int)) (pss_one (ps_asg pe_int (pg_sub (v_ 0) pe_int set_list))) pss_nil))))))) pss_nil) (pss_cons (ps_asg (pe_op (addK K) (e_x K (v_ 0) pe_int) pe_int) (pg_sub (v_ 0) pe_int set_list)) (pss_cons (ps_if (pt_c (eqK K hr.units) (e_x K (v_ 0) pe_int) pe_int) (pss_cons (ps_set (i := 5) sc__law_draw.nd rfl (.inl rfl) (pe_op op_modM (pe_callTy call_intM (by rfl) T.z_int (by decide +kernel) (pa_cons (e_x K (v_ 0) pe_int) pa_nil)) (v_ 1))) (pss_cons (ps_asg (pe_op op_divM (pe_callTy call_intM (by rfl) T.z_int (by decide +kernel) (pa_cons (e_x K (v_ 0) pe_int) pa_nil)) (v_ 1)) (pg_sub (v_ 0) pe_int set_list)) (Evl.pss_cut (ps_if (PW.pt (pw_or (pt_c (eqK K hr.units) (e_x K (v_ 0) pe_int) pe_int) (pw_or1 (pt_c op_geM (e_x K (v_ 0) pe_int) pe_int)))) (pss_one (ps_asg pe_int (pg_sub (v_ 0) pe_int set_list))) pss_nil) (pss_one (ps_ret (v_ 5)))))) pss_nil) (pss_cons (ps_set (i := 2) sc__law_draw.nd rfl (.inl rfl) (pe_op op_modM (pe_callTy call_intM (by rfl) T.z_int (by decide +kernel) (pa_cons (pe_op (addK K) (pe_op op_mulSM (e_x K (v_ 0) pe_int) pe_int) (pe_op op_mulSM (e_x K (v_ 0) pe_int) pe_int)) pa_nil)) pe_int)) (pss_cons (ps_set (i := 3) sc__law_draw.nd rfl (.inl rfl) (pe_op op_modM (pe_callTy call_intM (by rfl) T.z_int (by decide +kernel) (pa_cons (pe_op (addK K) (pe_op (addK K) (pe_op op_mulSM (v_ 2) (v_ 2)) (pe_op op_mulSM (e_x K (v_ 0) pe_int) pe_int)) pe_int) pa_nil)) pe_int)) (Evl.pss_cut (ps_if (pt_c op_geM (e_x K (v_ 0) pe_int) pe_int) (pss_one (ps_asg pe_int (pg_sub (v_ 0) pe_int set_list))) pss_nil) (pss_cons (ps_set (i := 4) sc__law_draw.nd rfl (.inl rfl) (pe_op op_modM (pe_callTy call_intM (by rfl) T.z_int (by decide +kernel) (pa_cons (pe_op (addK K) (pe_op op_mulSM (v_ 3) pe_int) (v_ 2)) pa_nil)) pe_int)) (pss_one (ps_ret (pe_op op_modM (pe_callTy call_intM (by rfl) T.z_int (by decide +kernel) (pa_cons (v_ 4) pa_nil)) (v_ 1))))))))))), ?_⟩
  refine ⟨fun σ' H' => σ' = [some (.ref st), some (.int many), none, none, none, none] ∧ ∃ i v m c, H' = upd H st (.lst (stv scr i v m c)) ∧ 0 ≤ i, ?_, ?_⟩
  · refine ⟨_, .inl (SqL.of hst), _, rfl, ?_⟩
    refine ite2 (fun e => ?_) (fun e => ?_)
    · refine ⟨_, .inl (SqL.of hst), _, rfl, _, .inl (SqL.of hst), _, rfl, .inl ⟨_, .inl (SqL.of hscr), ?_⟩⟩
      refine ite2 (fun e1 => ?_) (fun e1 => ?_)
      · have z := q 0 (stv scr i v m c) (by omega) hm0 (DrAt.upd hst hscr hl h0)
        rw [upd_id hst] at z
        exact z
      · have e2 := of_decide_eq_false (Bool.eq_false_iff.mpr e1)
        rw [List.length_map] at e2
        obtain ⟨z, hz⟩ : ∃ z, atI (ns.map V.int) i = some (.int z) := by
          have hi : i.toNat < ns.length := by omega
          refine ⟨ns[i.toNat], ?_⟩
          have hq : atI (ns.map V.int) ((i.toNat : Nat) : Int) = some (.int ns[i.toNat]) := atI_nat (by rw [List.getElem?_map, List.getElem?_eq_getElem hi]; rfl)
          rwa [show ((i.toNat : Nat) : Int) = i by omega] at hq
        refine ⟨_, .inl (SqL.of hst), _, rfl, _, .inl (SqL.of hst), _, rfl, _, .inl (SqL.of hscr), _, hz, ?_⟩
        refine ⟨_, _, _, 2, rfl, rfl, hst, rfl, ?_⟩
        refine ⟨_, .inl (SqL.of upd_same), _, rfl, ?_⟩
        refine ⟨_, _, _, 1, rfl, rfl, upd_same, rfl, ?_⟩
        refine ⟨_, _, _, 3, rfl, rfl, upd_same, rfl, ?_⟩
        refine ⟨_, _, _, 4, rfl, rfl, upd_same, rfl, ?_⟩
        refine ⟨_, .inl (SqL.of upd_same), _, rfl, (by unfold CPow; decide), ?_⟩
        refine ite2 (fun e3 => ?_) (fun e3 => ?_)
        · refine ⟨_, _, _, 3, rfl, rfl, upd_same, rfl, rfl, i + 1, z, 2, 0, ?_, by omega⟩
          rw [upd_upd, upd_upd, upd_upd, upd_upd]
          rfl
        · refine ⟨rfl, i + 1, z, 1, 0, ?_, by omega⟩
          rw [upd_upd, upd_upd, upd_upd]
          rfl
    · exact ⟨rfl, i, v, m, c, (upd_id hst).symm, h0⟩
  · rintro σ' H' ⟨rfl, i, v, m, c, rfl, h0⟩
    have hscr' : ∀ o, upd H st o scr = some (.lst (ns.map V.int)) := fun o => by rw [upd_ne hne]; exact hscr
    refine ⟨_, .inl (SqL.of upd_same), _, rfl, ?_⟩
    refine ⟨_, _, _, 4, rfl, rfl, upd_same, rfl, ?_⟩
    rw [upd_upd]
    refine ⟨_, .inl (SqL.of upd_same), _, rfl, ?_⟩
    refine ite2 (fun e => ?_) (fun e => ?_)
    · refine ⟨_, .inl (SqL.of upd_same), _, rfl, hm0, ?_⟩
      refine ⟨_, .inl (SqL.of upd_same), _, rfl, .inr (wide_div hm0 (b := 200) hm1 (by decide) (by decide)), ?_⟩
      refine ⟨_, _, _, 2, rfl, rfl, upd_same, rfl, ?_⟩
      rw [upd_upd]
      have fin : ∀ m' : Int, Q (.int (v % many)) (upd H st (.lst (stv scr i (v / many) m' (c + 1)))) := fun m' => q _ _ (Int.emod_nonneg _ (by omega)) (Int.emod_lt_of_pos _ hm0) (DrAt.upd hst hscr hl h0)
      refine ⟨fun σ' H' => σ' = [some (.ref st), some (.int many), none, none, none, some (.int (v % many))] ∧ ∃ m', H' = upd H st (.lst (stv scr i (v / many) m' (c + 1))), ?_, ?_⟩
      · refine ⟨_, .inl (SqL.of upd_same), _, rfl, ?_⟩
        refine ite2 (fun e1 => ?_) (fun e1 => ?_)
        · refine ⟨_, _, _, 3, rfl, rfl, upd_same, rfl, rfl, 0, ?_⟩
          rw [upd_upd]
          rfl
        · refine ⟨_, .inl (SqL.of upd_same), _, rfl, ?_⟩
          refine ite2 (fun e1 => ?_) (fun e1 => ?_)
          · refine ⟨_, _, _, 3, rfl, rfl, upd_same, rfl, rfl, 0, ?_⟩
            rw [upd_upd]
            rfl
          · exact ⟨rfl, m, rfl⟩
      · rintro σ' H' ⟨rfl, m', rfl⟩
        exact fin m'
    · refine ⟨_, .inl (SqL.of upd_same), _, rfl, .inl (.inr ⟨by decide, by decide⟩), ?_⟩
      refine ⟨_, .inl (SqL.of upd_same), _, rfl, .inl (.inr ⟨by decide, by decide⟩), (by decide), ?_⟩
      have f0 := Int.emod_nonneg (v * 48271 + (c + 1) * 69621) (by decide : (2147483647 : Int) ≠ 0)
      have f1 := Int.emod_lt_of_pos (v * 48271 + (c + 1) * 69621) (by decide : (0 : Int) < 2147483647)
      refine ⟨.inl (.inl ⟨by omega, by omega⟩), ?_⟩
      refine ⟨_, .inl (SqL.of upd_same), _, rfl, .inl (.inr ⟨by decide, by decide⟩), (by decide), ?_⟩
      have fin : ∀ (m' x : Int), Q (.int (x % many)) (upd H st (.lst (stv scr i v m' (c + 1)))) := fun m' x => q _ _ (Int.emod_nonneg _ (by omega)) (Int.emod_lt_of_pos _ hm0) (DrAt.upd hst hscr hl h0)
      refine ⟨fun σ' H' => (∃ a b, σ' = [some (.ref st), some (.int many), some (.int a), some (.int b), none, none]) ∧ ∃ m', H' = upd H st (.lst (stv scr i v m' (c + 1))), ?_, ?_⟩
      · refine ⟨_, .inl (SqL.of upd_same), _, rfl, ?_⟩
        refine ite2 (fun e1 => ?_) (fun e1 => ?_)
        · refine ⟨_, _, _, 3, rfl, rfl, upd_same, rfl, ⟨_, _, rfl⟩, 0, ?_⟩
          rw [upd_upd]
          rfl
        · exact ⟨⟨_, _, rfl⟩, m, rfl⟩
      · rintro σ' H' ⟨⟨a, b, rfl⟩, m', rfl⟩
        refine ⟨.inl (.inr ⟨by decide, by decide⟩), (by decide), hm0, ?_⟩
        exact fin m' _

/-! ### _law_state -/
def sp__law_state (K : PySem.W.Frag) : Sp := fun vs H Q _ => ∃ (a : Addr) (ns : List Int), vs = [.ref a] ∧ SqL K H a (ns.map V.int) ∧ ns.length ≤ 63 ∧
  ∀ (H' : Hp) (st scr : Addr), Same H H' → H st = none → H scr = none → DrAt H' st scr → Q (.ref st) H'
theorem len__law_state {vs : List V} {H : Hp} {Q : VK} {E : XK} (h : sp__law_state K vs H Q E) : vs.length = 1 := by
  obtain ⟨_, _, rfl, _⟩ := h
  rfl
theorem ok__law_state {f : Addr} {fd : FuncData} (F : Fun K "_law_state" "_law_state" s__law_state f fd) (T : Gs K mg t_LETTERS t_LONGEST_NAME a_RESERVED a_BadName a_BadOrder a_ElseputError a_KeyOrder a_UnknownKey) : FnOk P w K mg base CX0 1 f fd ["_law_script"] (sp__law_state K) := by
  refine F.ok sc__law_state (fun vs H Q E h => len__law_state h) (fun cdv A outer s H vs Q E hr h => ?_)
  obtain ⟨a, ns, rfl, hS, hl, q⟩ := h
  refine ⟨_, (pss_one (ps_ret (pe_lst (pa_cons (pe_callTy (listK K) (by rfl) T.z_list (by decide +kernel) (pa_cons (v_ 0) pa_nil)) (pa_cons pe_int (pa_cons pe_int (pa_cons pe_int (pa_cons pe_int pa_nil)))))))), ?_⟩
  refine ⟨_, _, rfl, .inl hS, fun l nl => ?_⟩
  refine ⟨(by show 5 ≤ sizeLine; decide), fun st nst => ?_⟩
  have hne := new_ne nst
  refine q _ st l ((same_new nl).trans (same_new nst)) (free_new nst) nl ⟨ns, 0, 0, 0, 0, upd_same, ?_, hl, by omega⟩
  rw [upd_ne hne.symm, upd_same]

/-! ### _law_pick -/
theorem at_list {α : Type} {xs : List α} {r : Int} (h0 : 0 ≤ r) (h1 : r < xs.length) : ∃ x, atI xs r = some x ∧ x ∈ xs := by
  have hi : r.toNat < xs.length := by omega
  refine ⟨xs[r.toNat], ?_, List.getElem_mem hi⟩
  have hq : atI xs ((r.toNat : Nat) : Int) = some xs[r.toNat] := atI_nat (List.getElem?_eq_getElem hi)
  rwa [show ((r.toNat : Nat) : Int) = r by omega] at hq
theorem at_str {z : Str} {r : Int} (h0 : 0 ≤ r) (h1 : r < z.length) : ∃ c, atI z.cps.toList r = some c ∧ c ∈ z.cps.toList := at_list h0 (by rw [len_cps]; exact h1)
theorem many_small {m : Int} (h0 : 0 < m) (h1 : m ≤ 1000000000) : m.natAbs < 2 ^ 200 := Nat.lt_of_le_of_lt (show m.natAbs ≤ 2 ^ 30 by omega) (Nat.pow_lt_pow_right (by decide) (by decide))
def sp__law_pick (K : PySem.W.Frag) : Sp := fun vs H Q _ => ∃ (st scr : Addr) (v : V), vs = [.ref st, v] ∧ DrAt H st scr ∧
  ((∃ z : Str, v = .str z ∧ 0 < z.length ∧ z.length ≤ 1000 ∧ ∀ (c : Nat) (l : List V), c ∈ z.cps.toList → DrAt (upd H st (.lst l)) st scr → Q (.str ⟨#[c]⟩) (upd H st (.lst l))) ∨
    ∃ (p : Addr) (xs : List V), v = .ref p ∧ H p = some (.lst xs) ∧ p ≠ st ∧ 0 < xs.length ∧ xs.length ≤ 1000 ∧ ∀ (x : V) (l : List V), x ∈ xs → DrAt (upd H st (.lst l)) st scr → Q x (upd H st (.lst l)))
theorem len__law_pick {vs : List V} {H : Hp} {Q : VK} {E : XK} (h : sp__law_pick K vs H Q E) : vs.length = 2 := by
  obtain ⟨_, _, _, rfl, _⟩ := h
  rfl
theorem ok__law_pick {f : Addr} {fd : FuncData} {f__law_draw : Addr} {fd__law_draw : FuncData} (F : Fun K "_law_pick" "_law_pick" s__law_pick f fd) (T : Gs K mg t_LETTERS t_LONGEST_NAME a_RESERVED a_BadName a_BadOrder a_ElseputError a_KeyOrder a_UnknownKey) (c__law_draw : Cal P w K mg base CX0 1 "_law_draw" f__law_draw fd__law_draw ["_law_state_here", "_law_many"] (sp__law_draw K)) : FnOk P w K mg base CX0 2 f fd ["_law_state_here", "_law_row"] (sp__law_pick K) := by
  refine F.ok sc__law_pick (fun vs H Q E h => len__law_pick h) (fun cdv A outer s H vs Q E hr h => ?_)
  obtain ⟨st, scr, v, rfl, hd, h⟩ := h
  refine ⟨_, (pss_one (ps_ret (e_x K (v_ 1) (pe_call c__law_draw.G (hr.mono (by first | decide | omega)) rfl c__law_draw.m c__law_draw.kp c__law_draw.b .nil pass0 (pa_cons (v_ 0) (pa_cons (pe_callB (lenK K) (by rfl) T.z_len PySem.boot_len (pa_cons (v_ 1) pa_nil)) pa_nil)))))), ?_⟩
  rcases h with ⟨z, rfl, h0, h1, q⟩ | ⟨p, xs, rfl, hp, hne, h0, h1, q⟩
  · refine ⟨line_of (by omega), st, scr, _, rfl, hd, by omega, many_small (by omega) (by omega), fun r l r0 r1 hd' => ?_⟩
    obtain ⟨c, hc, hm⟩ := at_str r0 r1
    exact ⟨line_of (by omega), c, hc, q c l hm hd'⟩
  · refine .inl ⟨_, .inl (SqL.of hp), st, scr, _, rfl, hd, by omega, many_small (by omega) (by omega), fun r l r0 r1 hd' => ?_⟩
    obtain ⟨x, hx, hm⟩ := at_list r0 r1
    exact ⟨_, .inl (SqL.of (by rw [upd_ne hne]; exact hp)), x, hx, q x l hm hd'⟩

/-! ### _law_mixed -/
theorem cutV_take (xs : List V) {k : Int} (h : 0 ≤ k) : cutV xs none (some k) = xs.take k.toNat := by
  unfold cutV
  have e := HT.sIx_nat xs.length xs.length k.toNat
  rw [show ((k.toNat : Nat) : Int) = k by omega] at e
  rw [e, HT.sIx_none, List.drop_zero]
  by_cases hk : k.toNat ≤ xs.length
  · rw [Nat.min_eq_left hk, Nat.sub_zero]
  · rw [Nat.min_eq_right (by omega), Nat.sub_zero, List.take_length, List.take_of_length_le (by omega)]
theorem cutV_drop (xs : List V) {k : Int} (h : 0 ≤ k) : cutV xs (some k) none = xs.drop k.toNat := by
  unfold cutV
  have e := HT.sIx_nat xs.length 0 k.toNat
  rw [show ((k.toNat : Nat) : Int) = k by omega] at e
  rw [e, HT.sIx_none]
  by_cases hk : k.toNat ≤ xs.length
  · rw [Nat.min_eq_left hk, List.take_of_length_le (by rw [List.length_drop]; omega)]
  · rw [Nat.min_eq_right (by omega), List.drop_of_length_le (Nat.le_refl _), List.drop_of_length_le (by omega)]
    exact List.take_nil
def sp__law_mixed (K : PySem.W.Frag) : Sp := fun vs H Q _ => ∃ (st scr p : Addr) (xs : List V), vs = [.ref st, .ref p] ∧ DrAt H st scr ∧ H p = some (.lst xs) ∧ p ≠ st ∧ xs.length ≤ 1000 ∧
  ∀ (H' : Hp) (r : Addr) (ys : List V), Bt st H H' → DrAt H' st scr → H r = none → H' r = some (.lst ys) → ys.Perm xs → Q (.ref r) H'
theorem len__law_mixed {vs : List V} {H : Hp} {Q : VK} {E : XK} (h : sp__law_mixed K vs H Q E) : vs.length = 2 := by
  obtain ⟨_, _, _, _, rfl, _⟩ := h
  rfl
theorem ok__law_mixed {f : Addr} {fd : FuncData} {f__law_draw : Addr} {fd__law_draw : FuncData} (F : Fun K "_law_mixed" "_law_mixed" s__law_mixed f fd) (T : Gs K mg t_LETTERS t_LONGEST_NAME a_RESERVED a_BadName a_BadOrder a_ElseputError a_KeyOrder a_UnknownKey) (c__law_draw : Cal P w K mg base CX0 1 "_law_draw" f__law_draw fd__law_draw ["_law_state_here", "_law_many"] (sp__law_draw K)) : FnOk P w K mg base CX0 2 f fd ["_law_state_here", "_law_row"] (sp__law_mixed K) := by
  refine F.ok sc__law_mixed (fun vs H Q E h => len__law_mixed h) (fun cdv A outer s H vs Q E hr h => ?_)
  obtain ⟨st, scr, p, xs, rfl, hd, hp, hne, hl, q⟩ := h
  refine ⟨_, (pss_cons (ps_set (i := 2) sc__law_mixed.nd rfl (.inl rfl) (pe_callTy (listK K) (by rfl) T.z_list (by decide +kernel) (pa_cons (v_ 1) pa_nil))) (pss_cons (ps_set (i := 3) sc__law_mixed.nd rfl (.inl rfl) (pe_lst pa_nil)) (pss_cons (ps_for PassesOwn.never rfl (pi_range1 rfl T.z_range (pa_cons (pe_callB (lenK K) (by rfl) T.z_len PySem.boot_len (pa_cons (v_ 1) pa_nil)) pa_nil)) (pg_name (i := 4) sc__law_mixed.nd rfl (.inl rfl)) (pss_cons (ps_set (i := 5) sc__law_mixed.nd rfl (.inl rfl) (pe_call c__law_draw.G (hr.mono (by first | decide | omega)) rfl c__law_draw.m c__law_draw.kp c__law_draw.b .nil pass0 (pa_cons (v_ 0) (pa_cons (pe_callB (lenK K) (by rfl) T.z_len PySem.boot_len (pa_cons (v_ 2) pa_nil)) pa_nil)))) (pss_cons (ps_expr (pe_bm PySem.F.plainAttrs_list PySem.F.slot_list_append PySem.F.type_list_append mt_append (v_ 3) (pa_cons (e_x K (v_ 2) (v_ 5)) pa_nil))) (pss_one (ps_set (i := 2) sc__law_mixed.nd rfl (.inl rfl) (pe_op (addK K) (pe_slice (slK K) (v_ 2) po_none (po_some (v_ 5))) (pe_slice (slK K) (v_ 2) (po_some (pe_op (addK K) (v_ 5) pe_int)) po_none))))))) (pss_one (ps_ret (v_ 3)))))), ?_⟩
  refine ⟨_, _, rfl, .inl (SqL.of hp), fun t nt => ?_⟩
  refine ⟨Nat.zero_le _, fun r nr => ?_⟩
  have tr := new_ne nr
  have hr0 := free_new nr
  have hd0 := (hd.new (same_new (o := .lst xs) nt)).new (same_new (o := .lst []) nr)
  have ts : t ≠ st := hd.ne_new nt
  have rs : r ≠ st := hd.ne_new hr0
  have rc : r ≠ scr := hd.ne_scr hr0
  refine .inl ⟨_, .inl (SqL.of (by rw [upd_ne (ne_of_none hp hr0), upd_ne (ne_of_none hp nt)]; exact hp)), xs.length, rfl, by omega, by omega, ?_⟩
  refine for_range (lo := 0) (n := xs.length) (fun i σ' H' => ∃ (t : Addr) (rest ys : List V) (y z : Option V), σ' = [some (.ref st), some (.ref p), some (.ref t), some (.ref r), y, z] ∧ Bt st H H' ∧ DrAt H' st scr ∧ t ≠ st ∧ t ≠ r ∧ H' t = some (.lst rest) ∧ H' r = some (.lst ys) ∧ rest.length + i = xs.length ∧ ys.length = i ∧ (rest ++ ys).Perm xs) ?_ ?_ ?_
  · exact ⟨t, xs, [], _, _, rfl, .same ((same_new nt).trans (same_new nr)), hd0, ts, tr.symm, by rw [upd_ne tr.symm, upd_same], upd_same, rfl, rfl, by rw [List.append_nil]⟩
  · rintro i σ' H' hi ⟨t, rest, ys, y, z, rfl, bt, hd, ts, tr, ht, hr, l1, l2, m1⟩
    refine .inl ⟨_, .inl (SqL.of ht), st, scr, _, rfl, hd, by omega, many_small (by omega) (by omega), fun a l a0 a1 hd' => ?_⟩
    have ht1 : upd H' st (.lst l) t = some (.lst rest) := by rw [upd_ne ts]; exact ht
    have hr1 : upd H' st (.lst l) r = some (.lst ys) := by rw [upd_ne rs]; exact hr
    obtain ⟨x, hx, hm⟩ := at_list a0 a1
    refine ⟨.inl ⟨rfl, _, SqL.of hr1⟩, _, .inl (SqL.of ht1), x, hx, r, ys, x, rfl, rfl, hr1, line_lt (by omega), ?_⟩
    have hd2 := hd'.at (o := .lst (ys ++ [x])) rs rc
    have ht2 : upd (upd H' st (.lst l)) r (.lst (ys ++ [x])) t = some (.lst rest) := by rw [upd_ne tr]; exact ht1
    refine ⟨a, rfl, .inl ⟨rest, SqL.of ht2, fun u nu => ?_⟩⟩
    rw [cutV_take _ a0]
    have ht3 := same_new (o := .lst (rest.take a.toNat)) nu _ _ ht2
    refine ⟨a + 1, rfl, .inl ⟨rest, SqL.of ht3, fun v nv => ?_⟩⟩
    rw [cutV_drop _ (by omega)]
    have hu := same_new (o := .lst (rest.drop (a + 1).toNat)) nv _ _ (upd_same (H := upd (upd H' st (.lst l)) r (.lst (ys ++ [x]))) (a := u) (o := .lst (rest.take a.toNat)))
    refine .inl ⟨_, _, hu, upd_same, line_of (by rw [List.length_take, List.length_drop]; omega), fun k nk => ?_⟩
    have sm := ((same_new (o := .lst (rest.take a.toNat)) nu).trans (same_new (o := .lst (rest.drop (a + 1).toNat)) nv)).trans (same_new (o := .lst (rest.take a.toNat ++ rest.drop (a + 1).toNat)) nk)
    have hd3 := hd2.new sm
    have kn := free_new (free_new nk)
    refine ⟨k, _, ys ++ [x], _, _, rfl, ?_, hd3, hd2.ne_new kn, (ne_of_none upd_same kn).symm, upd_same, sm _ _ upd_same, ?_, by rw [List.length_append, l2]; rfl, ?_⟩
    · intro b o nb hb
      refine sm _ _ ?_
      have := bt b o nb hb
      rw [upd_ne (ne_of_none hb hr0), upd_ne nb]
      exact this
    · rw [List.length_append, List.length_take, List.length_drop]
      omega
    · have hx' : rest[a.toNat]? = some x := by
        obtain ⟨x', e1, e2⟩ : ∃ x', rest[a.toNat]? = some x' ∧ atI rest a = some x' := by
          have hlt : a.toNat < rest.length := by omega
          refine ⟨_, List.getElem?_eq_getElem hlt, ?_⟩
          have := atI_nat (List.getElem?_eq_getElem hlt)
          rwa [show ((a.toNat : Nat) : Int) = a by omega] at this
        rw [hx] at e2
        cases e2
        exact e1
      have hr' : rest = rest.take a.toNat ++ x :: rest.drop (a + 1).toNat := by
        obtain ⟨h1, h2⟩ := List.getElem?_eq_some_iff.mp hx'
        rw [show (a + 1).toNat = a.toNat + 1 by omega, ← h2, ← List.drop_eq_getElem_cons h1, List.take_append_drop]
      refine List.Perm.trans ?_ m1
      rw [← List.append_assoc]
      have p1 : (rest.take a.toNat ++ rest.drop (a + 1).toNat ++ ys ++ [x]).Perm (rest.take a.toNat ++ (x :: rest.drop (a + 1).toNat) ++ ys) := by
        refine (List.perm_append_comm (l₁ := rest.take a.toNat ++ rest.drop (a + 1).toNat ++ ys) (l₂ := [x])).trans ?_
        rw [List.append_assoc, List.append_assoc]
        exact (List.perm_middle (a := x) (l₁ := rest.take a.toNat) (l₂ := rest.drop (a + 1).toNat ++ ys)).symm
      rw [← hr'] at p1
      exact p1
  · rintro σ' H' ⟨t, rest, ys, y, z, rfl, bt, hd, ts, tr, ht, hr, l1, l2, m1⟩
    refine q H' r ys bt hd hr0 hr ?_
    have : rest = [] := List.eq_nil_of_length_eq_zero (by omega)
    rw [this] at m1
    exact m1
end
section
variable {P : Program} {w : World} {K : PySem.W.Frag} {mg : Str → Option Value} {base : Heap}
variable {t_LETTERS t_LONGEST_NAME : Tok} {a_RESERVED a_BadName a_BadOrder a_ElseputError a_KeyOrder a_UnknownKey : Addr}
/-! ### _law_same -/
def sp__law_is_int (K : PySem.W.Frag) : Sp := fun vs H Q _ => ∃ i : Int, vs = [.int i] ∧ Q (.bl true) H
theorem len__law_is_int {vs : List V} {H : Hp} {Q : VK} {E : XK} (h : sp__law_is_int K vs H Q E) : vs.length = 1 := by
  obtain ⟨_, rfl, _⟩ := h
  rfl
theorem ok__law_is_int {f : Addr} {fd : FuncData} (F : Fun K "_law_is_int" "_law_is_int" s__law_is_int f fd) (T : Gs K mg t_LETTERS t_LONGEST_NAME a_RESERVED a_BadName a_BadOrder a_ElseputError a_KeyOrder a_UnknownKey) : FnOk P w K mg base CX0 1 f fd ["_law_thing"] (sp__law_is_int K) := by
  refine F.ok sc__law_is_int (fun vs H Q E h => len__law_is_int h) (fun cdv A outer s H vs Q E hr h => ?_)
  obtain ⟨i, rfl, q⟩ := h
  refine ⟨_, (pss_one (ps_ret (pe_andM (pe_callB (isiK K) (by rfl) T.z_isinstance (by decide +kernel) (pa_cons (v_ 0) (pa_cons (pe_bltn (v := .ty "int") (u := .type "int") (by rfl) T.z_int (by decide +kernel) rfl) pa_nil))) (pe_one (pe_notM (pe_callB (isiK K) (by rfl) T.z_isinstance (by decide +kernel) (pa_cons (v_ 0) (pa_cons (pe_bltn (v := .ty "bool") (u := .type "bool") (by rfl) T.z_bool (by decide +kernel) rfl) pa_nil)))))))), ?_⟩
  refine ⟨_, _, _, _, true, rfl, .ty _, .base (.int i), kit_ty (by decide +kernel), ?_⟩
  exact ⟨_, _, _, _, false, rfl, .ty _, .base (.int i), kit_ty (by decide +kernel), q⟩
def SameV (H : Hp) : Nat → V → V → Prop
  | 0, _, _ => False
  | n + 1, x, y => (x = .non ∧ y = .non) ∨ (∃ b : Bool, x = .bl b ∧ y = .bl b) ∨ (∃ i : Int, x = .int i ∧ y = .int i) ∨ (∃ z : Str, x = .str z ∧ y = .str z) ∨ ∃ (p q : Addr) (xs ys : List V), x = .ref p ∧ y = .ref q ∧ ((H p = some (.lst xs) ∧ H q = some (.lst ys)) ∨ (H p = some (.tup xs) ∧ H q = some (.tup ys))) ∧
      xs.length = ys.length ∧ ys.length ≤ 1000 ∧ ∀ (i : Nat) (a b : V), xs[i]? = some a → ys[i]? = some b → SameV H n a b
def spSame (n : Nat) : Sp := fun vs H Q _ => ∃ x y : V, vs = [x, y] ∧ SameV H n x y ∧ Q (.bl true) H
theorem len_same {n : Nat} {vs : List V} {H : Hp} {Q : VK} {E : XK} (h : spSame n vs H Q E) : vs.length = 2 := by
  obtain ⟨_, _, rfl, _⟩ := h
  rfl
theorem same_step {n k : Nat} {f : Addr} {fd : FuncData} {f__law_is_int : Addr} {fd__law_is_int : FuncData} (F : Fun K "_law_same" "_law_same" s__law_same f fd) (T : Gs K mg t_LETTERS t_LONGEST_NAME a_RESERVED a_BadName a_BadOrder a_ElseputError a_KeyOrder a_UnknownKey)
    (c__law_is_int : Cal P w K mg base CX0 1 "_law_is_int" f__law_is_int fd__law_is_int ["_law_thing"] (sp__law_is_int K)) (c__law_same : Cal P w K mg base CX0 k "_law_same" f fd ["_law_actual", "_law_due_here"] (spSame n)) (hk : 1 ≤ k) : FnOk P w K mg base CX0 (k + 1) f fd ["_law_actual", "_law_due_here"] (spSame (n + 1)) := by
  refine F.ok sc__law_same (fun vs H Q E h => len_same h) (fun cdv A outer s H vs Q E hr h => ?_)
  obtain ⟨x, y, rfl, h, q⟩ := h
  refine ⟨_, (pss_cons (ps_if (pt_c op_isM (v_ 1) pe_non) (pss_one (ps_ret (pe_c op_isM (v_ 0) pe_non))) pss_nil) (pss_cons (ps_if (pt_c op_isM (v_ 1) pe_bl) (pss_one (ps_ret (pe_c op_isM (v_ 0) pe_bl))) pss_nil) (pss_cons (ps_if (pt_c op_isM (v_ 1) pe_bl) (pss_one (ps_ret (pe_c op_isM (v_ 0) pe_bl))) pss_nil) (pss_cons (ps_if (pt_t K (pe_callB (isiK K) (by rfl) T.z_isinstance (by decide +kernel) (pa_cons (v_ 1) (pa_cons (pe_bltn (v := .ty "int") (u := .type "int") (by rfl) T.z_int (by decide +kernel) rfl) pa_nil)))) (pss_one (ps_ret (pe_andM (pe_call c__law_is_int.G (hr.mono (by first | decide | omega)) rfl c__law_is_int.m c__law_is_int.kp c__law_is_int.b .nil pass0 (pa_cons (v_ 0) pa_nil)) (pe_one (pe_c (eqK K hr.units) (v_ 0) (v_ 1)))))) pss_nil) (pss_cons (ps_if (pt_t K (pe_callB (isiK K) (by rfl) T.z_isinstance (by decide +kernel) (pa_cons (v_ 1) (pa_cons (pe_bltn (v := .ty "str") (u := .type "str") (by rfl) T.z_str (by decide +kernel) rfl) pa_nil)))) (pss_one (ps_ret (pe_andM (pe_callB (isiK K) (by rfl) T.z_isinstance (by decide +kernel) (pa_cons (v_ 0) (pa_cons (pe_bltn (v := .ty "str") (u := .type "str") (by rfl) T.z_str (by decide +kernel) rfl) pa_nil))) (pe_one (pe_c (eqK K hr.units) (v_ 0) (v_ 1)))))) pss_nil) (pss_cons (ps_if (pt_t K (pe_callB (isiK K) (by rfl) T.z_isinstance (by decide +kernel) (pa_cons (v_ 1) (pa_cons (pe_bltn (v := .ty "dict") (u := .type "dict") (by rfl) T.z_dict (by decide +kernel) rfl) pa_nil)))) (pss_cons (ps_if (PW.pt (pw_or (pt_not (pt_t K (pe_callB (isiK K) (by rfl) T.z_isinstance (by decide +kernel) (pa_cons (v_ 0) (pa_cons (pe_bltn (v := .ty "dict") (u := .type "dict") (by rfl) T.z_dict (by decide +kernel) rfl) pa_nil))))) (pw_or1 (pt_c (neK K hr.units) (pe_callB (lenK K) (by rfl) T.z_len PySem.boot_len (pa_cons (v_ 0) pa_nil)) (pe_callB (lenK K) (by rfl) T.z_len PySem.boot_len (pa_cons (v_ 1) pa_nil)))))) (pss_one (ps_ret pe_bl)) pss_nil) (pss_cons (ps_lock (ps_for PassesOwn.never rfl (pi_keys (v_ 1)) (pg_name (i := 3) sc__law_same.nd rfl (.inl rfl)) (pss_one (ps_if (PW.pt (pw_or (pt_cmp (pc_dnotin (hu_of hr) (v_ 3) (v_ 0))) (pw_or1 (pt_not (pt_t K (pe_call c__law_same.G (hr.mono (by first | decide | omega)) rfl c__law_same.m c__law_same.kp c__law_same.b .nil pass0 (pa_cons (pe_dget (hu_of hr) (v_ 0) (v_ 3) (fun _ _ => rfl)) (pa_cons (pe_dget (hu_of hr) (v_ 1) (v_ 3) (fun _ _ => rfl)) pa_nil)))))))) (pss_one (ps_ret pe_bl)) pss_nil)))) (pss_one (ps_ret pe_bl)))) pss_nil) (pss_cons (ps_if (PW.pt (pw_and (pt_t K (pe_callB (isiK K) (by rfl) T.z_isinstance (by decide +kernel) (pa_cons (v_ 1) (pa_cons (pe_bltn (v := .ty "list") (u := .type "list") (by rfl) T.z_list (by decide +kernel) rfl) pa_nil)))) (pw_and1 (pt_not (pt_t K (pe_callB (isiK K) (by rfl) T.z_isinstance (by decide +kernel) (pa_cons (v_ 0) (pa_cons (pe_bltn (v := .ty "list") (u := .type "list") (by rfl) T.z_list (by decide +kernel) rfl) pa_nil)))))))) (pss_one (ps_ret pe_bl)) pss_nil) (pss_cons (ps_if (PW.pt (pw_and (pt_t K (pe_callB (isiK K) (by rfl) T.z_isinstance (by decide +kernel) (pa_cons (v_ 1) (pa_cons (pe_bltn (v := .ty "tuple") (u := .type "tuple") (by rfl) T.z_tuple (by decide +kernel) rfl) pa_nil)))) (pw_and1 (pt_not (pt_t K (pe_callB (isiK K) (by rfl) T.z_isinstance (by decide +kernel) (pa_cons (v_ 0) (pa_cons (pe_bltn (v := .ty "tuple") (u := .type "tuple") (by rfl) T.z_tuple (by decide +kernel) rfl) pa_nil)))))))) (pss_one (ps_ret pe_bl)) pss_nil) (pss_cons (ps_if (pt_c (neK K hr.units) (pe_callB (lenK K) (by rfl) T.z_len PySem.boot_len (pa_cons (v_ 0) pa_nil)) (pe_callB (lenK K) (by rfl) T.z_len PySem.boot_len (pa_cons (v_ 1) pa_nil))) (pss_one (ps_ret pe_bl)) pss_nil) (pss_cons (ps_for PassesOwn.never rfl (pi_range1 rfl T.z_range (pa_cons (pe_callB (lenK K) (by rfl) T.z_len PySem.boot_len (pa_cons (v_ 1) pa_nil)) pa_nil)) (pg_name (i := 2) sc__law_same.nd rfl (.inl rfl)) (pss_one (ps_if (pt_not (pt_t K (pe_call c__law_same.G (hr.mono (by first | decide | omega)) rfl c__law_same.m c__law_same.kp c__law_same.b .nil pass0 (pa_cons (e_x K (v_ 0) (v_ 2)) (pa_cons (e_x K (v_ 1) (v_ 2)) pa_nil))))) (pss_one (ps_ret pe_bl)) pss_nil))) (pss_one (ps_ret pe_bl)))))))))))), ?_⟩
  rcases h with ⟨rfl, rfl⟩ | ⟨b, rfl, rfl⟩ | ⟨i, rfl, rfl⟩ | ⟨z, rfl, rfl⟩ | ⟨a, b, xs, ys, rfl, rfl, hh, hl, h1, hs⟩
  · exact q
  · cases b <;> exact q
  · refine ⟨_, _, _, _, true, rfl, .ty _, .base (.int i), kit_ty (by decide +kernel), ?_⟩
    refine ⟨i, rfl, ?_⟩
    have e : decide (i = i) = true := decide_eq_true rfl
    rw [← e] at q
    exact q
  · refine ⟨_, _, _, _, false, rfl, .ty _, .base (.str z), kit_ty (by decide +kernel), ?_⟩
    refine ⟨_, _, _, _, true, rfl, .ty _, .base (.str z), kit_ty (by decide +kernel), ?_⟩
    refine ⟨_, _, _, _, true, rfl, .ty _, .base (.str z), kit_ty (by decide +kernel), ?_⟩
    have e : decide (z = z) = true := decide_eq_true rfl
    rw [← e] at q
    exact q
  · rcases hh with ⟨ha, hb⟩ | ⟨ha, hb⟩
    · have tb : TyX K H (.ref b) (.type "list") := .base (.lst hb)
      refine ⟨_, _, _, _, false, rfl, .ty _, tb, kit_ty (by decide +kernel), ?_⟩
      refine ⟨_, _, _, _, false, rfl, .ty _, tb, kit_ty (by decide +kernel), ?_⟩
      refine ⟨_, _, _, _, false, rfl, .ty _, tb, kit_ty (by decide +kernel), ?_⟩
      refine ⟨_, _, _, _, true, rfl, .ty _, tb, kit_ty (by decide +kernel), ?_⟩
      refine ⟨_, _, _, _, true, rfl, .ty _, .base (.lst ha), kit_ty (by decide +kernel), ?_⟩
      refine ⟨_, _, _, _, false, rfl, .ty _, tb, kit_ty (by decide +kernel), ?_⟩
      refine .inl ⟨_, .inl (SqL.of ha), .inl ⟨_, .inl (SqL.of hb), ?_⟩⟩
      refine ite2 (fun e => ?_) (fun _ => ?_)
      · exact absurd e (by rw [hl]; simp)
      refine .inl ⟨_, .inl (SqL.of hb), _, rfl, by omega, by omega, ?_⟩
      refine for_range (lo := 0) (n := ys.length) (fun i σ' H' => H' = H ∧ ∃ y, σ' = [some (.ref a), some (.ref b), y, none]) ⟨rfl, _, rfl⟩ ?_ ?_
      · rintro i σ' H' hi ⟨rfl, y, rfl⟩
        have ex := List.getElem?_eq_getElem (l := xs) (i := i) (by omega)
        have ey := List.getElem?_eq_getElem (l := ys) hi
        refine ⟨_, .inl (SqL.of ha), xs[i], ?_, _, .inl (SqL.of hb), ys[i], ?_, _, _, rfl, hs i _ _ ex ey, ?_⟩
        · rw [show (0 : Int) + i = ((i : Nat) : Int) by omega]
          exact atI_nat ex
        · rw [show (0 : Int) + i = ((i : Nat) : Int) by omega]
          exact atI_nat ey
        exact ⟨rfl, _, rfl⟩
      · rintro σ' H' ⟨rfl, y, rfl⟩
        exact q
    · have tb : TyX K H (.ref b) (.type "tuple") := .base (.tup hb)
      refine ⟨_, _, _, _, false, rfl, .ty _, tb, kit_ty (by decide +kernel), ?_⟩
      refine ⟨_, _, _, _, false, rfl, .ty _, tb, kit_ty (by decide +kernel), ?_⟩
      refine ⟨_, _, _, _, false, rfl, .ty _, tb, kit_ty (by decide +kernel), ?_⟩
      refine ⟨_, _, _, _, false, rfl, .ty _, tb, kit_ty (by decide +kernel), ?_⟩
      refine ⟨_, _, _, _, true, rfl, .ty _, tb, kit_ty (by decide +kernel), ?_⟩
      refine ⟨_, _, _, _, true, rfl, .ty _, .base (.tup ha), kit_ty (by decide +kernel), ?_⟩
      refine .inl ⟨_, .inr (SqT.of ha), .inl ⟨_, .inr (SqT.of hb), ?_⟩⟩
      refine ite2 (fun e => ?_) (fun _ => ?_)
      · exact absurd e (by rw [hl]; simp)
      refine .inl ⟨_, .inr (SqT.of hb), _, rfl, by omega, by omega, ?_⟩
      refine for_range (lo := 0) (n := ys.length) (fun i σ' H' => H' = H ∧ ∃ y, σ' = [some (.ref a), some (.ref b), y, none]) ⟨rfl, _, rfl⟩ ?_ ?_
      · rintro i σ' H' hi ⟨rfl, y, rfl⟩
        have ex := List.getElem?_eq_getElem (l := xs) (i := i) (by omega)
        have ey := List.getElem?_eq_getElem (l := ys) hi
        refine ⟨_, .inr (SqT.of ha), xs[i], ?_, _, .inr (SqT.of hb), ys[i], ?_, _, _, rfl, hs i _ _ ex ey, ?_⟩
        · rw [show (0 : Int) + i = ((i : Nat) : Int) by omega]
          exact atI_nat ex
        · rw [show (0 : Int) + i = ((i : Nat) : Int) by omega]
          exact atI_nat ey
        exact ⟨rfl, _, rfl⟩
      · rintro σ' H' ⟨rfl, y, rfl⟩
        exact q
theorem same_all {f : Addr} {fd : FuncData} {f__law_is_int : Addr} {fd__law_is_int : FuncData} (F : Fun K "_law_same" "_law_same" s__law_same f fd) (T : Gs K mg t_LETTERS t_LONGEST_NAME a_RESERVED a_BadName a_BadOrder a_ElseputError a_KeyOrder a_UnknownKey)
    (c__law_is_int : Cal P w K mg base CX0 1 "_law_is_int" f__law_is_int fd__law_is_int ["_law_thing"] (sp__law_is_int K)) (b : Binds K fd ["_law_actual", "_law_due_here"] []) (kp : PySem.W.keepIn K (.ref f) = true) (m : mg "_law_same" = some (.ref f)) :
    ∀ n : Nat, FnOk P w K mg base CX0 (n + 2) f fd ["_law_actual", "_law_due_here"] (spSame n)
  | 0 => ⟨fun _ _ _ _ h => len_same h, by
    intro A outer s H args us vs Q E _ _ _ _ h
    obtain ⟨_, _, _, h, _⟩ := h
    exact False.elim h⟩
  | n + 1 => same_step F T c__law_is_int ⟨same_all F T c__law_is_int b kp m n, b, kp, m⟩ (by omega)
def sp__law_same (K : PySem.W.Frag) : Sp := spSame 4
theorem ok__law_same {f : Addr} {fd : FuncData} {f__law_is_int : Addr} {fd__law_is_int : FuncData} (F : Fun K "_law_same" "_law_same" s__law_same f fd) (T : Gs K mg t_LETTERS t_LONGEST_NAME a_RESERVED a_BadName a_BadOrder a_ElseputError a_KeyOrder a_UnknownKey)
    (c__law_is_int : Cal P w K mg base CX0 1 "_law_is_int" f__law_is_int fd__law_is_int ["_law_thing"] (sp__law_is_int K)) (b : Binds K fd ["_law_actual", "_law_due_here"] []) (kp : PySem.W.keepIn K (.ref f) = true) (m : mg "_law_same" = some (.ref f)) :
    FnOk P w K mg base CX0 6 f fd ["_law_actual", "_law_due_here"] (sp__law_same K) := same_all F T c__law_is_int b kp m 4

end
section
variable {P : Program} {w : World} {K : PySem.W.Frag} {mg : Str → Option Value} {base : Heap}
variable {t_LETTERS t_LONGEST_NAME : Tok} {a_RESERVED a_BadName a_BadOrder a_ElseputError a_KeyOrder a_UnknownKey : Addr}
/-! ### names -/
/-- small letters, of which the one at p is c -/
def Lt (z : Str) (p c : Nat) : Prop := (∀ d ∈ z.cps.toList, d ∈ letters.cps.toList) ∧ z.cps.toList[p]? = some c ∧ z.length ≤ 12
theorem Lt.name {z : Str} {p c : Nat} (h : Lt z p c) (hr : inV (.str z) resv = false) : isName z = true := by
  unfold isName
  have h0 : ¬ ((z.length : Int) < 1) := by
    have := (List.getElem?_eq_some_iff.mp h.2.1).1
    rw [len_cps] at this
    omega
  have h1 : ¬ ((12 : Int) < z.length) := by have := h.2.2; omega
  rw [decide_eq_false h0, decide_eq_false h1, hr]
  show (z.cps.toList.all fun c => decide (c ∈ letters.cps.toList)) = true
  exact List.all_eq_true.mpr fun d hd => decide_eq_true (h.1 d hd)
theorem resv_strs : resv = (["always", "never", "and", "or", "not", "when", "add", "set", "change", "tell", "refuse", "take", "look", "free", "lock", "keep", "keys", "fields"] : List Str).map V.str := rfl
theorem resv_z {z : Str} (h : inV (.str z) resv = true) : inV (.str (z ++ "z")) resv = false ∧ z.length ≤ 7 := by
  rw [resv_strs, inV_str, decide_eq_true_iff] at h
  have all : (["always", "never", "and", "or", "not", "when", "add", "set", "change", "tell", "refuse", "take", "look", "free", "lock", "keep", "keys", "fields"] : List Str).all (fun z => !inV (.str (z ++ "z")) resv && decide (z.length ≤ 7)) = true := by decide +kernel
  have := List.all_eq_true.mp all z h
  rw [Bool.and_eq_true, Bool.not_eq_true', decide_eq_true_iff] at this
  exact this
end
section
variable {P : Program} {w : World} {K : PySem.W.Frag} {mg : Str → Option Value} {base : Heap}
variable {t_LETTERS t_LONGEST_NAME : Tok} {a_RESERVED a_BadName a_BadOrder a_ElseputError a_KeyOrder a_UnknownKey : Addr}
theorem cutS_take (z : Str) {k : Nat} : (cutS z none (some (k : Int))).cps.toList = z.cps.toList.take k := by
  unfold cutS
  rw [List.toList_toArray, HT.sIx_nat, HT.sIx_none, List.drop_zero, Nat.sub_zero, List.take_eq_take_iff, len_cps]
  omega
theorem cutS_drop (z : Str) {k : Nat} : (cutS z (some (k : Int)) none).cps.toList = z.cps.toList.drop k := by
  unfold cutS
  rw [List.toList_toArray, HT.sIx_nat, HT.sIx_none]
  by_cases h : k ≤ z.length
  · rw [Nat.min_eq_left h, List.take_of_length_le (by rw [List.length_drop, len_cps]; omega)]
  · rw [Nat.min_eq_right (by omega), List.drop_of_length_le (by rw [len_cps]; omega), List.drop_of_length_le (by rw [len_cps]; omega), List.take_nil]
theorem letter_at {i : Int} (h0 : 0 ≤ i) (h1 : i < 26) : atI letters.cps.toList i = some (97 + i.toNat) := by
  have all : ∀ j : Fin 26, letters.cps.toList[j.val]? = some (97 + j.val) := by decide +kernel
  have := all ⟨i.toNat, by omega⟩
  have hq := atI_nat this
  rwa [show ((i.toNat : Nat) : Int) = i by omega] at hq
theorem letter_mem {i : Nat} (h1 : i < 26) : (97 + i) ∈ letters.cps.toList := by
  have all : ∀ j : Fin 26, (97 + j.val) ∈ letters.cps.toList := by decide +kernel
  exact all ⟨i, h1⟩
theorem one_len (c : Nat) : (⟨#[c]⟩ : Str).length = 1 := rfl
theorem one_cps (c : Nat) : (⟨#[c]⟩ : Str).cps.toList = [c] := rfl
theorem Lt.z {z : Str} {p c : Nat} (h : Lt z p c) (hl : z.length ≤ 7) : Lt (z ++ "z") p c := by
  refine ⟨fun d hd => ?_, ?_, ?_⟩
  · rw [cps_add] at hd
    rcases List.mem_append.mp hd with e | e
    · exact h.1 d e
    · have : d = 122 := by simpa using (show d ∈ [122] from e)
      rw [this]
      decide +kernel
  · rw [cps_add, List.getElem?_append_left (List.getElem?_eq_some_iff.mp h.2.1).1]
    exact h.2.1
  · rw [len_add]
    show z.length + 1 ≤ 12
    omega
def sp__law_names (K : PySem.W.Frag) : Sp := fun vs H Q _ => ∃ (st scr : Addr) (n : Nat), vs = [.ref st, .int n] ∧ DrAt H st scr ∧ n ≤ 26 ∧
  ∀ (H' : Hp) (p : Addr) (zs : List Str), Bt st H H' → DrAt H' st scr → H p = none → H' p = some (.lst (zs.map V.str)) → zs.length = n → (∀ z ∈ zs, isName z = true ∧ z.length ≤ 12) → zs.Nodup → Q (.ref p) H'
theorem len__law_names {vs : List V} {H : Hp} {Q : VK} {E : XK} (h : sp__law_names K vs H Q E) : vs.length = 2 := by
  obtain ⟨_, _, _, rfl, _⟩ := h
  rfl
theorem ok__law_names {f : Addr} {fd : FuncData} {f__law_draw : Addr} {fd__law_draw : FuncData} (F : Fun K "_law_names" "_law_names" s__law_names f fd) (T : Gs K mg t_LETTERS t_LONGEST_NAME a_RESERVED a_BadName a_BadOrder a_ElseputError a_KeyOrder a_UnknownKey) (c__law_draw : Cal P w K mg base CX0 1 "_law_draw" f__law_draw fd__law_draw ["_law_state_here", "_law_many"] (sp__law_draw K)) : FnOk P w K mg base CX0 2 f fd ["_law_state_here", "_law_many"] (sp__law_names K) := by
  refine F.ok sc__law_names (fun vs H Q E h => len__law_names h) (fun cdv A outer s H vs Q E hr h => ?_)
  obtain ⟨st, scr, n, rfl, hd, hn, q⟩ := h
  refine ⟨_, (pss_cons (ps_set (i := 2) sc__law_names.nd rfl (.inl rfl) pe_str) (pss_cons (ps_set (i := 3) sc__law_names.nd rfl (.inl rfl) (pe_call c__law_draw.G (hr.mono (by first | decide | omega)) rfl c__law_draw.m c__law_draw.kp c__law_draw.b .nil pass0 (pa_cons (v_ 0) (pa_cons pe_int pa_nil)))) (pss_cons (ps_set (i := 4) sc__law_names.nd rfl (.inl rfl) (pe_call c__law_draw.G (hr.mono (by first | decide | omega)) rfl c__law_draw.m c__law_draw.kp c__law_draw.b .nil pass0 (pa_cons (v_ 0) (pa_cons pe_int pa_nil)))) (pss_cons (ps_set (i := 5) sc__law_names.nd rfl (.inl rfl) (pe_call c__law_draw.G (hr.mono (by first | decide | omega)) rfl c__law_draw.m c__law_draw.kp c__law_draw.b .nil pass0 (pa_cons (v_ 0) (pa_cons pe_int pa_nil)))) (pss_cons (ps_set (i := 6) sc__law_names.nd rfl (.inl rfl) (pe_call c__law_draw.G (hr.mono (by first | decide | omega)) rfl c__law_draw.m c__law_draw.kp c__law_draw.b .nil pass0 (pa_cons (v_ 0) (pa_cons pe_int pa_nil)))) (pss_cons (ps_set (i := 7) sc__law_names.nd rfl (.inl rfl) pe_str) (pss_cons (ps_for PassesOwn.never rfl (pi_range1 rfl T.z_range (pa_cons pe_int pa_nil)) (pg_name (i := 8) sc__law_names.nd rfl (.inl rfl)) (pss_cons (ps_set (i := 7) sc__law_names.nd rfl (.inl rfl) (pe_op (addK K) (v_ 7) (e_x K (v_ 2) (pe_op op_modM (pe_callTy call_intM (by rfl) T.z_int (by decide +kernel) (pa_cons (v_ 5) pa_nil)) pe_int)))) (pss_one (ps_set (i := 5) sc__law_names.nd rfl (.inl rfl) (pe_op op_divM (pe_callTy call_intM (by rfl) T.z_int (by decide +kernel) (pa_cons (v_ 5) pa_nil)) pe_int))))) (pss_cons (ps_set (i := 9) sc__law_names.nd rfl (.inl rfl) (pe_lst (pa_cons pe_str (pa_cons pe_str (pa_cons pe_str (pa_cons pe_str (pa_cons pe_str (pa_cons pe_str (pa_cons pe_str (pa_cons pe_str (pa_cons pe_str (pa_cons pe_str (pa_cons pe_str (pa_cons pe_str pa_nil)))))))))))))) (pss_cons (ps_set (i := 9) sc__law_names.nd rfl (.inl rfl) (pe_op (addK K) (v_ 9) (pe_lst (pa_cons pe_str (pa_cons pe_str (pa_cons pe_str (pa_cons pe_str (pa_cons pe_str (pa_cons pe_str pa_nil))))))))) (pss_cons (ps_set (i := 10) sc__law_names.nd rfl (.inl rfl) (pe_lst pa_nil)) (pss_cons (ps_for PassesOwn.never rfl (pi_range1 rfl T.z_range (pa_cons (v_ 1) pa_nil)) (pg_name (i := 8) sc__law_names.nd rfl (.inl rfl)) (pss_cons (ps_set (i := 11) sc__law_names.nd rfl (.inl rfl) (e_x K (v_ 2) (pe_op op_modM (pe_callTy call_intM (by rfl) T.z_int (by decide +kernel) (pa_cons (pe_op (addK K) (v_ 4) (pe_op op_mulSM pe_int (v_ 8))) pa_nil)) pe_int))) (Evl.pss_cut (ps_if (pt_c (eqK K hr.units) (v_ 3) pe_int) (pss_one (ps_set (i := 11) sc__law_names.nd rfl (.inl rfl) (pe_op (addK K) (pe_op (addK K) (pe_slice (slK K) (v_ 7) po_none (po_some (v_ 6))) (v_ 11)) (pe_slice (slK K) (v_ 7) (po_some (v_ 6)) po_none)))) pss_nil) (Evl.pss_cut (ps_if (pt_c (eqK K hr.units) (v_ 3) pe_int) (pss_one (ps_set (i := 11) sc__law_names.nd rfl (.inl rfl) (pe_op (addK K) (v_ 11) (pe_slice (slK K) (v_ 7) po_none (po_some (pe_op op_modM (pe_callTy call_intM (by rfl) T.z_int (by decide +kernel) (pa_cons (pe_op (addK K) (pe_op op_mulSM pe_int (v_ 8)) (v_ 6)) pa_nil)) pe_int)))))) pss_nil) (Evl.pss_cut (ps_if (pt_c (eqK K hr.units) (v_ 3) pe_int) (pss_one (ps_set (i := 11) sc__law_names.nd rfl (.inl rfl) (pe_op (addK K) (pe_op (addK K) (pe_slice (slK K) (v_ 7) po_none (po_some pe_int)) (v_ 11)) (v_ 7)))) pss_nil) (Evl.pss_cut (ps_if (pt_c (inK K) (v_ 11) (v_ 9)) (pss_one (ps_set (i := 11) sc__law_names.nd rfl (.inl rfl) (pe_op (addK K) (v_ 11) pe_str))) pss_nil) (pss_one (ps_expr (pe_bm PySem.F.plainAttrs_list PySem.F.slot_list_append PySem.F.type_list_append mt_append (v_ 10) (pa_cons (v_ 11) pa_nil)))))))))) (pss_one (ps_ret (v_ 10)))))))))))))), ?_⟩
  refine ⟨st, scr, _, rfl, hd, by decide, many_small (by decide) (by decide), fun sty l1 s0 s1 hd1 => ?_⟩
  have b1 : Bt st H (upd H st (.lst l1)) := Bt.st
  generalize upd H st (.lst l1) = H1 at hd1 b1 ⊢
  refine ⟨st, scr, _, rfl, hd1, by decide, many_small (by decide) (by decide), fun sh l2 h0 h1 hd2 => ?_⟩
  have b2 := b1.trans (Bt.st (st := st) (o := .lst l2))
  generalize upd H1 st (.lst l2) = H2 at hd2 b2 ⊢
  refine ⟨st, scr, _, rfl, hd2, by decide, many_small (by decide) (by decide), fun cd l3 c0 c1 hd3 => ?_⟩
  have b3 := b2.trans (Bt.st (st := st) (o := .lst l3))
  generalize upd H2 st (.lst l3) = H3 at hd3 b3 ⊢
  refine ⟨st, scr, _, rfl, hd3, by decide, many_small (by decide) (by decide), fun spt l4 p0 p1 hd4 => ?_⟩
  have b4 := b3.trans (Bt.st (st := st) (o := .lst l4))
  generalize upd H3 st (.lst l4) = H4 at hd4 b4 ⊢
  refine ⟨6, rfl, by decide, by decide, ?_⟩
  refine for_range (lo := 0) (n := 6) (fun i σ' H' => ∃ (z : Str) (code : Int) (y : Option V), σ' = [some (.ref st), some (.int n), some (.str letters), some (.int sty), some (.int sh), some (.int code), some (.int spt), some (.str z), y, none, none, none] ∧ H' = H4 ∧ z.length = i ∧ ∀ d ∈ z.cps.toList, d ∈ letters.cps.toList) ?_ ?_ ?_
  · exact ⟨_, _, _, rfl, rfl, rfl, fun _ h => nomatch h⟩
  · rintro i σ' H' hi ⟨z, code, y, rfl, rfl, hz, ha⟩
    refine ⟨by decide, ?_⟩
    have r0 := Int.emod_nonneg code (by decide : (26 : Int) ≠ 0)
    have r1 := Int.emod_lt_of_pos code (by decide : (0 : Int) < 26)
    refine ⟨line_of (by decide +kernel), _, letter_at r0 r1, line_of (by rw [one_len]; omega), ?_⟩
    refine ⟨.inl ⟨by decide, by decide⟩, ?_⟩
    refine ⟨_, _, _, rfl, rfl, by rw [len_add, one_len, hz], fun d hd => ?_⟩
    rw [cps_add, one_cps] at hd
    rcases List.mem_append.mp hd with h | h
    · exact ha d h
    · rw [List.mem_singleton.mp h]
      exact letter_mem (by omega)
  rintro σ' H' ⟨bs, code, y, rfl, rfl, hz, ha⟩
  have hbl : bs.cps.toList.length = 6 := by rw [len_cps]; exact hz
  refine ⟨(by show 12 ≤ sizeLine; decide), fun o no => ?_⟩
  refine ⟨(by show 6 ≤ sizeLine; decide), fun p np => ?_⟩
  have hpo := new_ne np
  refine .inl ⟨_, _, (by rw [upd_ne hpo.symm, upd_same]), upd_same, (by show 18 ≤ sizeLine; decide), fun rv nrv => ?_⟩
  have sm := ((same_new (o := .lst [.str "always", .str "never", .str "and", .str "or", .str "not", .str "when", .str "add", .str "set", .str "change", .str "tell", .str "refuse", .str "take"]) no).trans (same_new (o := .lst [.str "look", .str "free", .str "lock", .str "keep", .str "keys", .str "fields"]) np)).trans (same_new (o := .lst resv) nrv)
  generalize hH5 : upd _ rv _ = H5
  have hrv : H5 rv = some (.lst resv) := by rw [← hH5]; exact upd_same
  have hd5 : DrAt H5 st scr := by rw [← hH5]; exact hd4.new sm
  have b5 : Bt st H H5 := by rw [← hH5]; exact b4.trans (Bt.same (st := st) sm)
  clear hH5
  refine ⟨Nat.zero_le _, fun L nL => ?_⟩
  generalize hH6 : upd _ L _ = H6
  have hrv2 : H6 rv = some (.lst resv) := by rw [← hH6]; exact same_new nL _ _ hrv
  have hd6 : DrAt H6 st scr := by rw [← hH6]; exact hd5.new (same_new nL)
  have b6 : Bt st H H6 := by rw [← hH6]; exact b5.trans (Bt.same (st := st) (same_new nL))
  have L0 : H L = none := b5.free (hd5.ne_new nL) nL
  have eL : H6 L = some (.lst []) := by rw [← hH6]; exact upd_same
  have Ls : L ≠ st := hd5.ne_new nL
  have Lc : L ≠ scr := hd5.ne_scr nL
  have Lrv : rv ≠ L := ne_of_none hrv nL
  clear hH6
  refine ⟨n, rfl, by omega, by omega, ?_⟩
  obtain ⟨ps, hps⟩ : ∃ ps : Nat, ps = if sty = 1 then spt.toNat else if sty = 3 then 5 else 0 := ⟨_, rfl⟩
  refine for_range (lo := 0) (n := n) (fun i σ' H' => ∃ (y z : Option V) (zs : List Str), σ' = [some (.ref st), some (.int n), some (.str letters), some (.int sty), some (.int sh), some (.int code), some (.int spt), some (.str bs), y, some (.ref rv), some (.ref L), z] ∧ H' = upd H6 L (.lst (zs.map V.str)) ∧ zs.length = i ∧
    ∀ (j : Nat) (z : Str), zs[j]? = some z → Lt z ps (97 + ((sh + 7 * (j : Int)) % 26).toNat) ∧ inV (.str z) resv = false) ?_ ?_ ?_
  · exact ⟨_, _, [], rfl, (upd_id eL).symm, rfl, fun j z h => nomatch h⟩
  · rintro i σ' H' hi ⟨y, z, zs, rfl, rfl, hzl, hzs⟩
    have r0 := Int.emod_nonneg (sh + 7 * (0 + (i : Int))) (by decide : (26 : Int) ≠ 0)
    have r1 := Int.emod_lt_of_pos (sh + 7 * (0 + (i : Int))) (by decide : (0 : Int) < 26)
    refine ⟨.inl (.inl ⟨by decide, by decide⟩), by decide, ?_⟩
    refine ⟨line_of (by decide +kernel), _, letter_at r0 r1, ?_⟩
    have hcm := letter_mem (i := ((sh + 7 * (0 + (i : Int))) % 26).toNat) (by omega)
    rw [Int.zero_add] at hcm r0 r1 ⊢
    generalize hcc : 97 + ((sh + 7 * (i : Int)) % 26).toNat = ch at hcm ⊢
    have hrv3 : (upd H6 L (.lst (zs.map V.str))) rv = some (.lst resv) := by rw [upd_ne Lrv]; exact hrv2
    refine ⟨fun σ' H' => ∃ w : Str, σ' = [some (.ref st), some (.int n), some (.str letters), some (.int sty), some (.int sh), some (.int code), some (.int spt), some (.str bs), some (.int i), some (.ref rv), some (.ref L), some (.str w)] ∧ H' = upd H6 L (.lst (zs.map V.str)) ∧ (sty = 1 → Lt w ps ch) ∧ (sty ≠ 1 → w = ⟨#[ch]⟩), ?_, ?_⟩
    · refine ite2 (fun e => ?_) (fun e => ?_)
      · have e : sty = 1 := of_decide_eq_true e
        have l1 := cutS_length bs none (some spt)
        have l2 := cutS_length bs (some spt) none
        have e1 := cutS_take bs (k := spt.toNat)
        have e2 := cutS_drop bs (k := spt.toNat)
        rw [show ((spt.toNat : Nat) : Int) = spt by omega] at e1 e2
        refine ⟨_, rfl, line_of (by omega), line_of (by rw [one_len]; omega), _, rfl, line_of (by omega), line_of (by rw [len_add, one_len]; omega), ?_⟩
        refine ⟨_, rfl, rfl, fun _ => ⟨fun d hd => ?_, ?_, ?_⟩, fun h => absurd e h⟩
        · rw [cps_add, cps_add, e1, e2, one_cps] at hd
          rcases List.mem_append.mp hd with h | h
          · rcases List.mem_append.mp h with h | h
            · exact ha d (List.mem_of_mem_take h)
            · rw [List.mem_singleton.mp h]; exact hcm
          · exact ha d (List.mem_of_mem_drop h)
        · have hps1 : ps = spt.toNat := by rw [hps, if_pos e]
          rw [cps_add, cps_add, e1, e2, one_cps, hps1, List.append_assoc, List.getElem?_append_right (by rw [List.length_take]; omega), List.length_take, hbl, Nat.min_eq_left (by omega), Nat.sub_self]
          rfl
        · rw [len_add, len_add, ← len_cps (cutS bs none (some spt)), ← len_cps (cutS bs (some spt) none), e1, e2, one_len, List.length_take, List.length_drop]
          omega
      · have e : ¬ sty = 1 := of_decide_eq_false (Bool.eq_false_iff.mpr e)
        exact ⟨_, rfl, rfl, fun h => absurd h e, fun _ => rfl⟩
    rintro σ' H' ⟨w, rfl, rfl, g1, g2⟩
    refine ⟨fun σ' H' => ∃ w : Str, σ' = [some (.ref st), some (.int n), some (.str letters), some (.int sty), some (.int sh), some (.int code), some (.int spt), some (.str bs), some (.int i), some (.ref rv), some (.ref L), some (.str w)] ∧ H' = upd H6 L (.lst (zs.map V.str)) ∧ (sty ≠ 3 → Lt w ps ch) ∧ (sty = 3 → w = ⟨#[ch]⟩), ?_, ?_⟩
    · refine ite2 (fun e => ?_) (fun e => ?_)
      · have e : sty = 2 := of_decide_eq_true e
        have hw := g2 (by omega)
        subst hw
        have r2 := Int.emod_nonneg (3 * (i : Int) + spt) (by decide : (7 : Int) ≠ 0)
        have e1 := cutS_take bs (k := ((3 * (i : Int) + spt) % 7).toNat)
        rw [show ((((3 * (i : Int) + spt) % 7).toNat : Nat) : Int) = (3 * (i : Int) + spt) % 7 by omega] at e1
        have l1 := cutS_length bs none (some ((3 * (i : Int) + spt) % 7))
        refine ⟨.inl (.inl ⟨by decide, by decide⟩), by decide, _, rfl, line_of (by omega), line_of (by rw [one_len]; omega), ?_⟩
        refine ⟨_, rfl, rfl, fun _ => ⟨fun d hd => ?_, ?_, ?_⟩, fun h => absurd h (by omega)⟩
        · rw [cps_add, e1, one_cps] at hd
          rcases List.mem_append.mp hd with h | h
          · rw [List.mem_singleton.mp h]; exact hcm
          · exact ha d (List.mem_of_mem_take h)
        · have hps1 : ps = 0 := by rw [hps, if_neg (by omega), if_neg (by omega)]
          rw [cps_add, one_cps, hps1]
          rfl
        · rw [len_add, one_len]
          omega
      · have e : ¬ sty = 2 := of_decide_eq_false (Bool.eq_false_iff.mpr e)
        refine ⟨w, rfl, rfl, fun h3 => ?_, fun h3 => g2 (by omega)⟩
        by_cases h1 : sty = 1
        · exact g1 h1
        · have hw := g2 h1
          subst hw
          refine ⟨fun d hd => ?_, ?_, by rw [one_len]; decide⟩
          · rw [List.mem_singleton.mp hd]; exact hcm
          · have hps1 : ps = 0 := by rw [hps, if_neg h1, if_neg h3]
            rw [hps1]
            rfl
    rintro σ' H' ⟨w, rfl, rfl, g1, g2⟩
    refine ⟨fun σ' H' => ∃ w : Str, σ' = [some (.ref st), some (.int n), some (.str letters), some (.int sty), some (.int sh), some (.int code), some (.int spt), some (.str bs), some (.int i), some (.ref rv), some (.ref L), some (.str w)] ∧ H' = upd H6 L (.lst (zs.map V.str)) ∧ Lt w ps ch, ?_, ?_⟩
    · refine ite2 (fun e => ?_) (fun e => ?_)
      · have e : sty = 3 := of_decide_eq_true e
        have hw := g2 e
        subst hw
        have e1 := cutS_take bs (k := 5)
        have l1 := cutS_length bs none (some 5)
        refine ⟨_, rfl, line_of (by omega), line_of (by rw [one_len]; omega), line_of (by rw [len_add, one_len]; omega), ?_⟩
        refine ⟨_, rfl, rfl, fun d hd => ?_, ?_, ?_⟩
        · rw [cps_add, cps_add, show (cutS bs none (some (5 : Int))).cps.toList = bs.cps.toList.take 5 from e1, one_cps] at hd
          rcases List.mem_append.mp hd with h | h
          · rcases List.mem_append.mp h with h | h
            · exact ha d (List.mem_of_mem_take h)
            · rw [List.mem_singleton.mp h]; exact hcm
          · exact ha d h
        · have hps1 : ps = 5 := by rw [hps, if_neg (by omega), if_pos e]
          rw [cps_add, cps_add, show (cutS bs none (some (5 : Int))).cps.toList = bs.cps.toList.take 5 from e1, one_cps, hps1, List.append_assoc, List.getElem?_append_right (by rw [List.length_take]; omega), List.length_take, hbl]
          rfl
        · rw [len_add, len_add, ← len_cps (cutS bs none (some (5 : Int))), show (cutS bs none (some (5 : Int))).cps.toList = bs.cps.toList.take 5 from e1, one_len, List.length_take]
          omega
      · have e : ¬ sty = 3 := of_decide_eq_false (Bool.eq_false_iff.mpr e)
        exact ⟨w, rfl, rfl, g1 e⟩
    rintro σ' H' ⟨w, rfl, rfl, g1⟩
    refine ⟨fun σ' H' => ∃ w : Str, σ' = [some (.ref st), some (.int n), some (.str letters), some (.int sty), some (.int sh), some (.int code), some (.int spt), some (.str bs), some (.int i), some (.ref rv), some (.ref L), some (.str w)] ∧ H' = upd H6 L (.lst (zs.map V.str)) ∧ Lt w ps ch ∧ inV (.str w) resv = false, ?_, ?_⟩
    · refine ⟨_, .inl (SqL.of hrv3), rfl, rfl, ?_⟩
      refine ite2 (fun e => ?_) (fun e => ?_)
      · have e : inV (.str w) resv = true := e
        obtain ⟨z1, z2⟩ := resv_z e
        exact ⟨line_of (by show w.length + 1 ≤ _; omega), _, rfl, rfl, g1.z z2, z1⟩
      · exact ⟨w, rfl, rfl, g1, Bool.eq_false_iff.mpr e⟩
    rintro σ' H' ⟨w, rfl, rfl, g1, gr⟩
    refine ⟨.inl ⟨rfl, _, SqL.of upd_same⟩, L, _, _, rfl, rfl, upd_same, line_lt (by rw [List.length_map]; omega), ?_⟩
    refine ⟨_, _, zs ++ [w], rfl, ?_, by rw [List.length_append, hzl]; rfl, fun j z hj => ?_⟩
    · rw [upd_upd, List.map_append]
      rfl
    · by_cases h : j < zs.length
      · rw [List.getElem?_append_left h] at hj
        exact hzs j z hj
      · rw [List.getElem?_append_right (by omega)] at hj
        have hj0 : j - zs.length = 0 := by
          have := (List.getElem?_eq_some_iff.mp hj).1
          rw [List.length_singleton] at this
          omega
        rw [hj0] at hj
        cases hj
        rw [show j = i by omega, hcc]
        exact ⟨g1, gr⟩
  · rintro σ' H' ⟨y, z, zs, rfl, rfl, hzl, hzs⟩
    refine q _ L zs ?_ (hd6.at Ls Lc) L0 upd_same (by omega) (fun z hz => ?_) ?_
    · intro b o nb hb
      rw [upd_ne (ne_of_none hb L0)]
      exact b6 b o nb hb
    · obtain ⟨j, hj, e⟩ := List.getElem_of_mem hz
      obtain ⟨h1, h2⟩ := hzs j z (by rw [List.getElem?_eq_getElem hj, e])
      exact ⟨h1.name h2, h1.2.2⟩
    · show List.Pairwise (· ≠ ·) zs
      rw [List.pairwise_iff_getElem]
      intro i j hi hj hij e
      have ej : zs[j]? = some zs[j] := List.getElem?_eq_getElem hj
      have ei : zs[i]? = some zs[j] := by rw [← e]; exact List.getElem?_eq_getElem hi
      obtain ⟨h1, _⟩ := hzs i _ ei
      obtain ⟨h2, _⟩ := hzs j _ ej
      have := h1.2.1.symm.trans h2.2.1
      have := Option.some.inj this
      omega
end
section
variable {P : Program} {w : World} {K : PySem.W.Frag} {mg : Str → Option Value} {base : Heap}
variable {t_LETTERS t_LONGEST_NAME : Tok} {a_RESERVED a_BadName a_BadOrder a_ElseputError a_KeyOrder a_UnknownKey : Addr}
/-! ### strings that are no names -/
theorem resv_asc : ∀ z ∈ (["always", "never", "and", "or", "not", "when", "add", "set", "change", "tell", "refuse", "take", "look", "free", "lock", "keep", "keys", "fields"] : List Str), inV (.str z) resv = true ∧ z.length ≤ 12 ∧ ∀ c ∈ z.cps.toList, c < 16 ^ 8 := by decide +kernel
theorem not_name_resv {z : Str} (h : inV (.str z) resv = true) : isName z = false := by
  cases e : isName z with
  | false => rfl
  | true =>
    have := (isName_mem e).2.2.2
    rw [h] at this
    cases this
theorem flat_rep {α : Type} (xs : List α) : ∀ n : Nat, (List.replicate n xs).flatten.length = n * xs.length
  | 0 => by simp
  | n + 1 => by
    rw [List.replicate_succ, List.flatten_cons, List.length_append, flat_rep xs n, Nat.succ_mul]
    omega
abbrev strange : List Str := [" ", "A", "Z", "0", "9", "_", "-", "`", "{", ":"]
theorem strange_bad : ∀ z ∈ strange, z.length = 1 ∧ (∀ c ∈ z.cps.toList, c ∉ letters.cps.toList ∧ c < 16 ^ 8) := by decide +kernel
def sp__law_bad_name (K : PySem.W.Frag) : Sp := fun vs H Q _ => ∃ (st scr : Addr) (z : Str), vs = [.ref st, .str z] ∧ DrAt H st scr ∧ isName z = true ∧
  ∀ (H' : Hp) (w : Str), Bt st H H' → DrAt H' st scr → isName w = false → w.length ≤ 30 → Asc w → Q (.str w) H'
theorem len__law_bad_name {vs : List V} {H : Hp} {Q : VK} {E : XK} (h : sp__law_bad_name K vs H Q E) : vs.length = 2 := by
  obtain ⟨_, _, _, rfl, _⟩ := h
  rfl
theorem ok__law_bad_name {f : Addr} {fd : FuncData} {f__law_draw : Addr} {fd__law_draw : FuncData} {f__law_pick : Addr} {fd__law_pick : FuncData} (F : Fun K "_law_bad_name" "_law_bad_name" s__law_bad_name f fd) (T : Gs K mg t_LETTERS t_LONGEST_NAME a_RESERVED a_BadName a_BadOrder a_ElseputError a_KeyOrder a_UnknownKey) (c__law_draw : Cal P w K mg base CX0 1 "_law_draw" f__law_draw fd__law_draw ["_law_state_here", "_law_many"] (sp__law_draw K)) (c__law_pick : Cal P w K mg base CX0 2 "_law_pick" f__law_pick fd__law_pick ["_law_state_here", "_law_row"] (sp__law_pick K)) : FnOk P w K mg base CX0 3 f fd ["_law_state_here", "_law_good"] (sp__law_bad_name K) := by
  refine F.ok sc__law_bad_name (fun vs H Q E h => len__law_bad_name h) (fun cdv A outer s H vs Q E hr h => ?_)
  obtain ⟨st, scr, z, rfl, hd, hz, q⟩ := h
  obtain ⟨zm, z1, z12, zr⟩ := isName_mem hz
  have za := isName_asc hz
  refine ⟨_, (pss_cons (ps_set (i := 2) sc__law_bad_name.nd rfl (.inl rfl) (pe_call c__law_draw.G (hr.mono (by first | decide | omega)) rfl c__law_draw.m c__law_draw.kp c__law_draw.b .nil pass0 (pa_cons (v_ 0) (pa_cons pe_int pa_nil)))) (pss_cons (ps_set (i := 3) sc__law_bad_name.nd rfl (.inl rfl) (pe_lst (pa_cons pe_str (pa_cons pe_str (pa_cons pe_str (pa_cons pe_str (pa_cons pe_str (pa_cons pe_str (pa_cons pe_str (pa_cons pe_str (pa_cons pe_str (pa_cons pe_str (pa_cons pe_str (pa_cons pe_str pa_nil)))))))))))))) (pss_cons (ps_set (i := 3) sc__law_bad_name.nd rfl (.inl rfl) (pe_op (addK K) (v_ 3) (pe_lst (pa_cons pe_str (pa_cons pe_str (pa_cons pe_str (pa_cons pe_str (pa_cons pe_str (pa_cons pe_str pa_nil))))))))) (pss_cons (ps_if (pt_c (eqK K hr.units) (v_ 2) pe_int) (pss_one (ps_ret (pe_call c__law_pick.G (hr.mono (by first | decide | omega)) rfl c__law_pick.m c__law_pick.kp c__law_pick.b .nil pass0 (pa_cons (v_ 0) (pa_cons (v_ 3) pa_nil))))) pss_nil) (pss_cons (ps_if (pt_c (eqK K hr.units) (v_ 2) pe_int) (pss_one (ps_ret (pe_slice (slK K) (pe_op op_mulSM (v_ 1) pe_int) po_none (po_some pe_int)))) pss_nil) (pss_cons (ps_set (i := 4) sc__law_bad_name.nd rfl (.inl rfl) (pe_call c__law_draw.G (hr.mono (by first | decide | omega)) rfl c__law_draw.m c__law_draw.kp c__law_draw.b .nil pass0 (pa_cons (v_ 0) (pa_cons (pe_op (addK K) (pe_callB (lenK K) (by rfl) T.z_len PySem.boot_len (pa_cons (v_ 1) pa_nil)) pe_int) pa_nil)))) (pss_one (ps_ret (pe_op (addK K) (pe_op (addK K) (pe_slice (slK K) (v_ 1) po_none (po_some (v_ 4))) (pe_call c__law_pick.G (hr.mono (by first | decide | omega)) rfl c__law_pick.m c__law_pick.kp c__law_pick.b .nil pass0 (pa_cons (v_ 0) (pa_cons (pe_lst (pa_cons pe_str (pa_cons pe_str (pa_cons pe_str (pa_cons pe_str (pa_cons pe_str (pa_cons pe_str (pa_cons pe_str (pa_cons pe_str (pa_cons pe_str (pa_cons pe_str pa_nil))))))))))) pa_nil)))) (pe_slice (slK K) (v_ 1) (po_some (v_ 4)) po_none)))))))))), ?_⟩
  refine ⟨st, scr, _, rfl, hd, by decide, many_small (by decide) (by decide), fun kd l0 k0 k1 hd0 => ?_⟩
  have b0 : Bt st H (upd H st (.lst l0)) := Bt.st
  generalize upd H st (.lst l0) = H0 at hd0 b0 ⊢
  refine ⟨(by show 12 ≤ sizeLine; decide), fun o no => ?_⟩
  refine ⟨(by show 6 ≤ sizeLine; decide), fun p np => ?_⟩
  have hpo := new_ne np
  refine .inl ⟨_, _, (by rw [upd_ne hpo.symm, upd_same]), upd_same, (by show 18 ≤ sizeLine; decide), fun rv nrv => ?_⟩
  have sm := ((same_new (o := .lst [.str "always", .str "never", .str "and", .str "or", .str "not", .str "when", .str "add", .str "set", .str "change", .str "tell", .str "refuse", .str "take"]) no).trans (same_new (o := .lst [.str "look", .str "free", .str "lock", .str "keep", .str "keys", .str "fields"]) np)).trans (same_new (o := .lst resv) nrv)
  generalize hH5 : upd _ rv _ = H5
  have hrv : H5 rv = some (.lst resv) := by rw [← hH5]; exact upd_same
  have hd5 : DrAt H5 st scr := by rw [← hH5]; exact hd0.new sm
  have b5 : Bt st H H5 := by rw [← hH5]; exact b0.trans (Bt.same (st := st) sm)
  have rvst : rv ≠ st := hd0.ne_new (free_new (free_new nrv))
  clear hH5
  refine ite2 (fun e => ?_) (fun e => ?_)
  · refine ⟨st, scr, _, rfl, hd5, .inr ⟨rv, _, rfl, hrv, rvst, by decide, by decide, fun x l hx hd2 => ?_⟩⟩
    rw [resv_strs] at hx
    obtain ⟨w, hw, rfl⟩ := List.mem_map.mp hx
    obtain ⟨w1, w2, w3⟩ := resv_asc w hw
    exact q _ w (b5.trans Bt.st) hd2 (not_name_resv w1) (by omega) w3
  refine ite2 (fun e => ?_) (fun e => ?_)
  · refine ⟨by decide, by decide, by omega, ?_⟩
    have e13 : (List.replicate 13 z.cps.toList).flatten.length = 13 * z.length := by rw [flat_rep, len_cps]
    have lr : (repS z 13).length = 13 * z.length := by
      rw [← len_cps, repS_cps]
      exact e13
    have e1 := cutS_take (repS z 13) (k := 13)
    refine ⟨_, rfl, line_of (by omega), ?_⟩
    have lw : (cutS (repS z 13) none (some ((13 : Nat) : Int))).length = 13 := by
      rw [← len_cps, e1, List.length_take, len_cps, lr]
      omega
    refine q H5 _ b5 hd5 ?_ (by show (cutS (repS z 13) none (some ((13 : Nat) : Int))).length ≤ 30; omega) ?_
    · show isName (cutS (repS z 13) none (some ((13 : Nat) : Int))) = false
      cases e : isName (cutS (repS z 13) none (some ((13 : Nat) : Int))) with
      | false => rfl
      | true =>
        have := (isName_mem e).2.2.1
        omega
    · intro c hc
      have hc : c ∈ (cutS (repS z 13) none (some ((13 : Nat) : Int))).cps.toList := hc
      rw [e1] at hc
      have hc := List.mem_of_mem_take hc
      rw [repS_cps] at hc
      obtain ⟨l, hl, hc⟩ := List.mem_flatten.mp hc
      rw [List.eq_of_mem_replicate hl] at hc
      exact za c hc
  refine ⟨line_of (by omega), ?_⟩
  refine ⟨st, scr, _, rfl, hd5, by omega, many_small (by omega) (by omega), fun sp l s0 s1 hd1 => ?_⟩
  have b6 : Bt st H (upd H5 st (.lst l)) := b5.trans Bt.st
  generalize upd H5 st (.lst l) = H6 at hd1 b6 ⊢
  have e1 := cutS_take z (k := sp.toNat)
  have e2 := cutS_drop z (k := sp.toNat)
  rw [show ((sp.toNat : Nat) : Int) = sp by omega] at e1 e2
  have l1 := cutS_length z none (some sp)
  have l2 := cutS_length z (some sp) none
  refine ⟨_, rfl, line_of (by omega), ?_⟩
  refine ⟨(by show 10 ≤ sizeLine; decide), fun u nu => ?_⟩
  have su := same_new (o := .lst (strange.map V.str)) nu
  have hu : (upd H6 u (.lst (strange.map V.str))) u = some (.lst (strange.map V.str)) := upd_same
  have ust : u ≠ st := hd1.ne_new nu
  refine ⟨st, scr, _, rfl, hd1.new su, .inr ⟨u, _, rfl, hu, ust, by decide, by decide, fun x l hx hd2 => ?_⟩⟩
  obtain ⟨w, hw, rfl⟩ := List.mem_map.mp hx
  obtain ⟨w1, w2⟩ := strange_bad w hw
  refine ⟨line_of (by omega), _, rfl, line_of (by omega), line_of (by rw [len_add]; omega), ?_⟩
  refine q _ _ ((b6.trans (Bt.same (st := st) su)).trans Bt.st) hd2 ?_ (by rw [len_add, len_add]; omega) ?_
  · cases e : isName (cutS z none (some sp) ++ w ++ cutS z (some sp) none) with
    | false => rfl
    | true =>
      obtain ⟨c, hc⟩ : ∃ c, c ∈ w.cps.toList := by
        cases hw : w.cps.toList with
        | nil =>
          have := len_cps w
          rw [hw, w1] at this
          cases this
        | cons c r => exact ⟨c, List.mem_cons_self⟩
      refine absurd ((isName_mem e).1 c ?_) (w2 c hc).1
      rw [cps_add, cps_add]
      exact List.mem_append_left _ (List.mem_append_right _ hc)
  · intro d hd
    rw [cps_add, cps_add, e1, e2] at hd
    rcases List.mem_append.mp hd with h | h
    · rcases List.mem_append.mp h with h | h
      · exact za d (List.mem_of_mem_take h)
      · exact (w2 d h).2
    · exact za d (List.mem_of_mem_drop h)
end
section
variable {P : Program} {w : World} {K : PySem.W.Frag} {mg : Str → Option Value} {base : Heap}
variable {t_LETTERS t_LONGEST_NAME : Tok} {a_RESERVED a_BadName a_BadOrder a_ElseputError a_KeyOrder a_UnknownKey : Addr}
/-! ### making orders -/
theorem same_mk {H : Hp} {x dx C : Addr} (nx : H x = none) (nd : H dx = none) : Same H (upd (upd H dx (.own x)) x (.ins C dx [])) := fun b o hb => by
  rw [upd_ne (ne_of_none hb nx), upd_ne (ne_of_none hb nd)]
  exact hb
def MkI (K : PySem.W.Frag) (H : Hp) (x : Addr) (zs : List Str) (Q : VK) (E : XK) : Prop := match bad1 zs with
  | some z => BadN K H z E
  | none => if zs.Nodup then ∀ H' : Hp, Same H H' → OrAt K H' x zs → Q .non H' else BadO K H E
theorem inits_of {K : PySem.W.Frag} {H : Hp} {x dx C : Addr} {zs : List Str} {Q : VK} {E : XK} (hC : PySem.W.nsIn K mainGlobals "KeyOrder" = some (some (.ref C))) (nx : H x = none) (nd : H dx = none) (q : MkI K H x zs Q E) : Inits K (upd (upd H dx (.own x)) x (.ins C dx [])) x C dx zs Q E := by
  have after : ∀ {H' : Hp}, Bt x (upd (upd H dx (.own x)) x (.ins C dx [])) H' → Same H H' := fun {H'} k b o hb => k b o (ne_of_none hb nx) (same_mk nx nd _ _ hb)
  unfold MkI at q
  unfold Inits
  cases hb : bad1 zs with
  | some z =>
    rw [hb] at q
    exact fun B d H' hB k nd' hd => q B d H' hB (after k) (free_new (free_new nd')) hd
  | none =>
    rw [hb] at q
    by_cases hn : zs.Nodup
    · rw [if_pos hn] at q
      show if zs.Nodup then _ else _
      rw [if_pos hn]
      exact fun H' t k e1 e2 => q H' (after k) ⟨C, dx, t, hC, e1, e2⟩
    · rw [if_neg hn] at q
      show if zs.Nodup then _ else _
      rw [if_neg hn]
      exact fun B H' hB k => q B H' hB (after k)
theorem nodup_take {zs : List Str} {i : Nat} {z : Str} (h : (zs.take i).Nodup) (e : zs[i]? = some z) : (zs.take (i + 1)).Nodup ↔ z ∉ zs.take i := by
  rw [take_snoc e, List.nodup_append]
  constructor
  · rintro ⟨-, -, k⟩ hm
    exact k z hm z (List.mem_singleton.mpr rfl) rfl
  · intro k
    refine ⟨h, by simp, fun y hy w hw => ?_⟩
    rw [List.mem_singleton] at hw
    intro q
    exact k (hw ▸ q ▸ hy)
theorem nodup_not {zs : List Str} {i : Nat} (h : ¬ (zs.take i).Nodup) : ¬ zs.Nodup := fun k => h (k.sublist (List.take_sublist _ _))
/-! ### what is told is the same -/
theorem same_tupN {H : Hp} {t u : Addr} {xs ys : List V} {n : Nat} (h1 : H t = some (.tup xs)) (h2 : H u = some (.tup ys)) (hl : xs.length = ys.length) (h4 : ys.length ≤ 1000) (h : ∀ (i : Nat) (a b : V), xs[i]? = some a → ys[i]? = some b → SameV H n a b) : SameV H (n + 1) (.ref t) (.ref u) :=
  .inr (.inr (.inr (.inr ⟨t, u, _, _, rfl, rfl, .inr ⟨h1, h2⟩, hl, h4, h⟩)))
theorem same_str {H : Hp} {n : Nat} (z : Str) : SameV H (n + 1) (.str z) (.str z) := .inr (.inr (.inr (.inl ⟨z, rfl, rfl⟩)))
theorem same_bl {H : Hp} {n : Nat} (b : Bool) : SameV H (n + 1) (.bl b) (.bl b) := .inr (.inl ⟨b, rfl, rfl⟩)
theorem same_int {H : Hp} {n : Nat} (i : Int) : SameV H (n + 1) (.int i) (.int i) := .inr (.inr (.inl ⟨i, rfl, rfl⟩))
theorem same_non {H : Hp} {n : Nat} : SameV H (n + 1) .non .non := .inl ⟨rfl, rfl⟩
theorem same_strsT {H : Hp} {t u : Addr} {zs : List Str} {n : Nat} (h1 : H t = some (.tup (zs.map V.str))) (h2 : H u = some (.tup (zs.map V.str))) (hl : zs.length ≤ 1000) : SameV H (n + 2) (.ref t) (.ref u) := by
  refine same_tupN h1 h2 rfl (by rw [List.length_map]; exact hl) fun i a b ha hb => ?_
  rw [ha] at hb
  cases hb
  rw [List.getElem?_map] at ha
  obtain ⟨z, hz, rfl⟩ := Option.map_eq_some_iff.mp ha
  exact same_str z
theorem same_strsL {H : Hp} {t u : Addr} {zs : List Str} {n : Nat} (h1 : H t = some (.lst (zs.map V.str))) (h2 : H u = some (.lst (zs.map V.str))) (hl : zs.length ≤ 1000) : SameV H (n + 2) (.ref t) (.ref u) := by
  refine .inr (.inr (.inr (.inr ⟨t, u, _, _, rfl, rfl, .inl ⟨h1, h2⟩, rfl, by rw [List.length_map]; exact hl, fun i a b ha hb => ?_⟩)))
  rw [ha] at hb
  cases hb
  rw [List.getElem?_map] at ha
  obtain ⟨z, hz, rfl⟩ := Option.map_eq_some_iff.mp ha
  exact same_str z
theorem same_2 {H : Hp} {t u : Addr} {x0 x1 y0 y1 : V} {n : Nat} (h1 : H t = some (.tup [x0, x1])) (h2 : H u = some (.tup [y0, y1])) (a : SameV H n x0 y0) (b : SameV H n x1 y1) : SameV H (n + 1) (.ref t) (.ref u) :=
  same_tupN h1 h2 rfl (by show 2 ≤ 1000; decide) fun i x y hx hy => by
    match i, hx, hy with
    | 0, hx, hy => cases hx; cases hy; exact a
    | 1, hx, hy => cases hx; cases hy; exact b
    | i + 2, hx, hy => cases hx
theorem same_3 {H : Hp} {t u : Addr} {x0 x1 x2 y0 y1 y2 : V} {n : Nat} (h1 : H t = some (.tup [x0, x1, x2])) (h2 : H u = some (.tup [y0, y1, y2])) (a : SameV H n x0 y0) (b : SameV H n x1 y1) (c : SameV H n x2 y2) : SameV H (n + 1) (.ref t) (.ref u) :=
  same_tupN h1 h2 rfl (by show 3 ≤ 1000; decide) fun i x y hx hy => by
    match i, hx, hy with
    | 0, hx, hy => cases hx; cases hy; exact a
    | 1, hx, hy => cases hx; cases hy; exact b
    | 2, hx, hy => cases hx; cases hy; exact c
    | i + 3, hx, hy => cases hx
theorem same_4 {H : Hp} {t u : Addr} {x0 x1 x2 x3 y0 y1 y2 y3 : V} {n : Nat} (h1 : H t = some (.tup [x0, x1, x2, x3])) (h2 : H u = some (.tup [y0, y1, y2, y3])) (a : SameV H n x0 y0) (b : SameV H n x1 y1) (c : SameV H n x2 y2) (d : SameV H n x3 y3) : SameV H (n + 1) (.ref t) (.ref u) :=
  same_tupN h1 h2 rfl (by show 4 ≤ 1000; decide) fun i x y hx hy => by
    match i, hx, hy with
    | 0, hx, hy => cases hx; cases hy; exact a
    | 1, hx, hy => cases hx; cases hy; exact b
    | 2, hx, hy => cases hx; cases hy; exact c
    | 3, hx, hy => cases hx; cases hy; exact d
    | i + 4, hx, hy => cases hx
end
section
variable {P : Program} {w : World} {K : PySem.W.Frag} {mg : Str → Option Value} {base : Heap}
variable {t_LETTERS t_LONGEST_NAME : Tok} {a_RESERVED a_BadName a_BadOrder a_ElseputError a_KeyOrder a_UnknownKey : Addr}
theorem strs_of : ∀ {xs : List V} {zs : List Str}, (∀ x ∈ xs, x ∈ zs.map V.str) → ∃ ws : List Str, xs = ws.map V.str ∧ ∀ w ∈ ws, w ∈ zs
  | [], _, _ => ⟨[], rfl, fun _ h => nomatch h⟩
  | x :: r, zs, h => by
    obtain ⟨z, hz, rfl⟩ := List.mem_map.mp (h x List.mem_cons_self)
    obtain ⟨ws, rfl, hw⟩ := strs_of (xs := r) (zs := zs) fun y hy => h y (List.mem_cons_of_mem _ hy)
    exact ⟨z :: ws, rfl, fun w hw' => by
      rcases List.mem_cons.mp hw' with rfl | h'
      · exact hz
      · exact hw w h'⟩
theorem nodup_strs {zs : List Str} (h : zs.Nodup) : (zs.map V.str).Nodup := by
  show List.Pairwise (· ≠ ·) _
  rw [List.pairwise_map]
  exact List.Pairwise.imp (fun h e => h (V.str.inj e)) h
theorem nodup_of_strs {zs : List Str} (h : (zs.map V.str).Nodup) : zs.Nodup := by
  have h : List.Pairwise (· ≠ ·) (zs.map V.str) := h
  rw [List.pairwise_map] at h
  exact List.Pairwise.imp (fun h e => h (congrArg V.str e)) h
/-- the objects of an order stand where the state alone changes -/
theorem OrAt.bt {K : PySem.W.Frag} {H H' : Hp} {a st : Addr} {zs : List Str} (h : OrAt K H a zs) (hs : ∃ l, H st = some (.lst l)) (b : Bt st H H') : OrAt K H' a zs := by
  obtain ⟨C, dx, t, h1, h2, h3⟩ := h
  obtain ⟨l, hl⟩ := hs
  exact ⟨C, dx, t, h1, b _ _ (ne_of h2 hl (by intro e; cases e)) h2, b _ _ (ne_of h3 hl (by intro e; cases e)) h3⟩
/-- names as drawn -/
def Nms (zs : List Str) : Prop := ∀ z ∈ zs, isName z = true ∧ z.length ≤ 12
theorem Nms.asc {zs : List Str} (h : Nms zs) : ∀ z ∈ zs, z.length ≤ 1000 ∧ Asc z := fun z hz => ⟨Nat.le_trans (h z hz).2 (by decide), isName_asc (h z hz).1⟩
theorem Nms.bad {zs : List Str} (h : Nms zs) : bad1 zs = none := bad_none fun z hz => (h z hz).1
theorem mk_out {K : PySem.W.Frag} {H : Hp} {x : Addr} {zs : List Str} {Q : VK} {E : XK} (h : Nms zs) (hn : zs.Nodup) (q : ∀ H' : Hp, Same H H' → OrAt K H' x zs → Q .non H') : MkI K H x zs Q E := by
  unfold MkI
  rw [h.bad]
  show if zs.Nodup then _ else _
  rw [if_pos hn]
  exact q
/-! ### the operators of orders -/
def AddOut (K : PySem.W.Frag) (H : Hp) (zs : List Str) (z : Str) (ok : Prop) (E : XK) : Prop := if isName z = true then (if z ∈ zs then BadO K H E else ok) else BadN K H z E
theorem bad_end {zs : List Str} {z : Str} (h : Nms zs) (hz : ¬ isName z = true) : bad1 (zs ++ [z]) = some z := by
  have n := h.bad
  unfold bad1 at n ⊢
  rw [List.find?_append, n, List.find?_cons_of_pos (by rw [Bool.eq_false_iff.mpr hz]; rfl)]
  rfl
theorem bad_beg {zs : List Str} {z : Str} (hz : ¬ isName z = true) : bad1 (z :: zs) = some z := by
  unfold bad1
  rw [List.find?_cons_of_pos (by rw [Bool.eq_false_iff.mpr hz]; rfl)]
theorem nodup_end {zs : List Str} {z : Str} (h : zs.Nodup) : (zs ++ [z]).Nodup ↔ z ∉ zs := by
  rw [List.nodup_append]
  constructor
  · rintro ⟨-, -, k⟩ hm
    exact k z hm z (List.mem_singleton.mpr rfl) rfl
  · intro k
    refine ⟨h, by simp, fun y hy w hw q => ?_⟩
    rw [List.mem_singleton] at hw
    exact k (hw ▸ q ▸ hy)
theorem asc_end {zs : List Str} {z : Str} (h : Nms zs) (z1 : z.length ≤ 1000) (z2 : Asc z) : ∀ y ∈ zs ++ [z], y.length ≤ 1000 ∧ Asc y := fun y hy => by
  rcases List.mem_append.mp hy with k | k
  · exact h.asc y k
  · rw [List.mem_singleton.mp k]
    exact ⟨z1, z2⟩
theorem asc_beg {zs : List Str} {z : Str} (h : Nms zs) (z1 : z.length ≤ 1000) (z2 : Asc z) : ∀ y ∈ z :: zs, y.length ≤ 1000 ∧ Asc y := fun y hy => by
  rcases List.mem_cons.mp hy with k | k
  · rw [k]
    exact ⟨z1, z2⟩
  · exact h.asc y k
theorem mk_add {K : PySem.W.Frag} {H : Hp} {x : Addr} {zs ts : List Str} {z : Str} {Q : VK} {E : XK} (hts : ts = zs ++ [z] ∨ ts = z :: zs) (h : Nms zs) (hn : zs.Nodup)
    (q : AddOut K H zs z (∀ H' : Hp, Same H H' → OrAt K H' x ts → Q .non H') E) : MkI K H x ts Q E := by
  unfold AddOut at q
  unfold MkI
  by_cases hz : isName z = true
  · rw [if_pos hz] at q
    have nb : bad1 ts = none := bad_none fun y hy => by
      rcases hts with rfl | rfl
      · rcases List.mem_append.mp hy with k | k
        · exact (h y k).1
        · rw [List.mem_singleton.mp k]
          exact hz
      · rcases List.mem_cons.mp hy with k | k
        · rw [k]
          exact hz
        · exact (h y k).1
    have nd : ts.Nodup ↔ z ∉ zs := by
      rcases hts with rfl | rfl
      · exact nodup_end hn
      · rw [List.nodup_cons]
        exact ⟨fun k => k.1, fun k => ⟨k, hn⟩⟩
    rw [nb]
    show if ts.Nodup then _ else _
    by_cases hm : z ∈ zs
    · rw [if_pos hm] at q
      rw [if_neg (fun k => nd.mp k hm)]
      exact q
    · rw [if_neg hm] at q
      rw [if_pos (nd.mpr hm)]
      exact q
  · rw [if_neg hz] at q
    have nb : bad1 ts = some z := by
      rcases hts with rfl | rfl
      · exact bad_end h hz
      · exact bad_beg hz
    rw [nb]
    exact q
theorem AddOut.mono {K : PySem.W.Frag} {H : Hp} {zs : List Str} {z : Str} {p p' : Prop} {E : XK} (h : AddOut K H zs z p E) (i : p → p') : AddOut K H zs z p' E := by
  unfold AddOut at *
  split
  · rename_i e
    rw [if_pos e] at h
    split
    · rename_i e2
      rw [if_pos e2] at h
      exact h
    · rename_i e2
      rw [if_neg e2] at h
      exact i h
  · rename_i e
    rw [if_neg e] at h
    exact h
theorem AddOut.same {K : PySem.W.Frag} {H H1 : Hp} {zs : List Str} {z : Str} {p : Prop} {E : XK} (h : AddOut K H zs z p E) (s : Same H H1) : AddOut K H1 zs z p E := by
  unfold AddOut at *
  split
  · rename_i e
    rw [if_pos e] at h
    split
    · rename_i e2
      rw [if_pos e2] at h
      exact fun B H' hB s2 => h B H' hB (s.trans s2)
    · rename_i e2
      rw [if_neg e2] at h
      exact h
  · rename_i e
    rw [if_neg e] at h
    exact h.same s
def sp_KeyOrder___add__ (K : PySem.W.Frag) : Sp := fun vs H Q E => ∃ (a : Addr) (z : Str) (zs : List Str), vs = [.ref a, .str z] ∧ OrAt K H a zs ∧ zs.length ≤ 15 ∧ Nms zs ∧ zs.Nodup ∧ z.length ≤ 1000 ∧ Asc z ∧ AddOut K H zs z (∀ (H' : Hp) (b : Addr), Same H H' → H b = none → OrAt K H' b (zs ++ [z]) → Q (.ref b) H') E
theorem len_KeyOrder___add__ {vs : List V} {H : Hp} {Q : VK} {E : XK} (h : sp_KeyOrder___add__ K vs H Q E) : vs.length = 2 := by
  obtain ⟨_, _, _, rfl, _⟩ := h
  rfl
theorem ok_KeyOrder___add__ {f : Addr} {fd : FuncData} {f_KeyOrder___init__ : Addr} {fd_KeyOrder___init__ : FuncData} (F : Fun K "__add__" "KeyOrder.__add__" s_KeyOrder___add__ f fd) (T : Gs K mg t_LETTERS t_LONGEST_NAME a_RESERVED a_BadName a_BadOrder a_ElseputError a_KeyOrder a_UnknownKey) (c_KeyOrder___init__ : CalI P w K mg base (L2.CX P w) 4 "KeyOrder" a_KeyOrder f_KeyOrder___init__ fd_KeyOrder___init__ ["self", "names"] (sp_KeyOrder___init__ K)) : FnOk P w K mg base (L2.CX P w) 6 f fd ["self", "name"] (sp_KeyOrder___add__ K) := by
  refine F.okX sc_KeyOrder___add__ (fun vs H Q E h => len_KeyOrder___add__ h) (fun cdv A outer s H vs Q E hr h => ?_)
  obtain ⟨a, z, zs, rfl, ⟨C, dx, t, hC, ha, ht⟩, lz, hn, hd, z1, z2, q⟩ := h
  cases hC.symm.trans T.n_KeyOrder
  refine ⟨_, (pss_one (ps_ret (pe_make c_KeyOrder___init__.mkc c_KeyOrder___init__.G (hr.mono (by first | decide | omega)) rfl c_KeyOrder___init__.m c_KeyOrder___init__.b .nil (passes_call (takes_of rfl rfl rfl rfl) (fun _ _ _ _ h => h)) (pa_cons (pe_tup (StX.pa_star (e_f K (v_ 0)) (pa_cons (v_ 1) pa_nil))) pa_nil)))), ?_⟩
  refine ⟨a, a_KeyOrder, dx, _, _, rfl, ha, T.cl_KeyOrder, T.na_KeyOrder_names, rfl, t, _, rfl, .inl (SqT.of ht), ?_⟩
  refine ⟨line_of (by rw [List.length_append, List.length_map, List.length_singleton]; omega), fun p np => ?_⟩
  have e : zs.map V.str ++ [V.str z] = (zs ++ [z]).map V.str := by rw [List.map_append]; rfl
  rw [e]
  have sp := same_new (o := .tup ((zs ++ [z]).map V.str)) np
  intro x dx2 nx nd ne
  refine ⟨x, p, a_KeyOrder, dx2, zs ++ [z], rfl, T.n_KeyOrder, upd_same, .inr (same_mk nx nd _ _ upd_same), by rw [List.length_append, List.length_singleton]; omega, asc_end hn z1 z2, inits_of T.n_KeyOrder nx nd (mk_add (.inl rfl) hn hd ((q.same sp).mono fun k H' s hA => ⟨rfl, k H' x (sp.trans s) (free_new nx) hA⟩))⟩
def sp_KeyOrder___radd__ (K : PySem.W.Frag) : Sp := fun vs H Q E => ∃ (a : Addr) (z : Str) (zs : List Str), vs = [.ref a, .str z] ∧ OrAt K H a zs ∧ zs.length ≤ 15 ∧ Nms zs ∧ zs.Nodup ∧ z.length ≤ 1000 ∧ Asc z ∧ AddOut K H zs z (∀ (H' : Hp) (b : Addr), Same H H' → H b = none → OrAt K H' b (z :: zs) → Q (.ref b) H') E
theorem len_KeyOrder___radd__ {vs : List V} {H : Hp} {Q : VK} {E : XK} (h : sp_KeyOrder___radd__ K vs H Q E) : vs.length = 2 := by
  obtain ⟨_, _, _, rfl, _⟩ := h
  rfl
theorem ok_KeyOrder___radd__ {f : Addr} {fd : FuncData} {f_KeyOrder___init__ : Addr} {fd_KeyOrder___init__ : FuncData} (F : Fun K "__radd__" "KeyOrder.__radd__" s_KeyOrder___radd__ f fd) (T : Gs K mg t_LETTERS t_LONGEST_NAME a_RESERVED a_BadName a_BadOrder a_ElseputError a_KeyOrder a_UnknownKey) (c_KeyOrder___init__ : CalI P w K mg base (L2.CX P w) 4 "KeyOrder" a_KeyOrder f_KeyOrder___init__ fd_KeyOrder___init__ ["self", "names"] (sp_KeyOrder___init__ K)) : FnOk P w K mg base (L2.CX P w) 6 f fd ["self", "name"] (sp_KeyOrder___radd__ K) := by
  refine F.okX sc_KeyOrder___radd__ (fun vs H Q E h => len_KeyOrder___radd__ h) (fun cdv A outer s H vs Q E hr h => ?_)
  obtain ⟨a, z, zs, rfl, ⟨C, dx, t, hC, ha, ht⟩, lz, hn, hd, z1, z2, q⟩ := h
  cases hC.symm.trans T.n_KeyOrder
  refine ⟨_, (pss_one (ps_ret (pe_make c_KeyOrder___init__.mkc c_KeyOrder___init__.G (hr.mono (by first | decide | omega)) rfl c_KeyOrder___init__.m c_KeyOrder___init__.b .nil (passes_call (takes_of rfl rfl rfl rfl) (fun _ _ _ _ h => h)) (pa_cons (pe_tup (pa_cons (v_ 1) (StX.pa_star (e_f K (v_ 0)) pa_nil))) pa_nil)))), ?_⟩
  refine ⟨a, a_KeyOrder, dx, _, _, rfl, ha, T.cl_KeyOrder, T.na_KeyOrder_names, rfl, t, _, rfl, .inl (SqT.of ht), ?_⟩
  refine ⟨line_of (by rw [List.length_cons, List.length_append, List.length_map]; simp; omega), fun p np => ?_⟩
  have e : V.str z :: (zs.map V.str ++ []) = (z :: zs).map V.str := by rw [List.append_nil]; rfl
  rw [e]
  have sp := same_new (o := .tup ((z :: zs).map V.str)) np
  intro x dx2 nx nd ne
  refine ⟨x, p, a_KeyOrder, dx2, z :: zs, rfl, T.n_KeyOrder, upd_same, .inr (same_mk nx nd _ _ upd_same), by rw [List.length_cons]; omega, asc_beg hn z1 z2, inits_of T.n_KeyOrder nx nd (mk_add (.inr rfl) hn hd ((q.same sp).mono fun k H' s hA => ⟨rfl, k H' x (sp.trans s) (free_new nx) hA⟩))⟩
/-- nothing but the order changes, and it is longer -/
def sp_KeyOrder___iadd__ (K : PySem.W.Frag) : Sp := fun vs H Q E => ∃ (a : Addr) (z : Str) (zs : List Str), vs = [.ref a, .str z] ∧ OrAt K H a zs ∧ zs.length ≤ 15 ∧ Nms zs ∧ zs.Nodup ∧ z.length ≤ 1000 ∧ Asc z ∧ AddOut K H zs z (∀ H' : Hp, Bt a H H' → OrAt K H' a (zs ++ [z]) → Q (.ref a) H') E
theorem len_KeyOrder___iadd__ {vs : List V} {H : Hp} {Q : VK} {E : XK} (h : sp_KeyOrder___iadd__ K vs H Q E) : vs.length = 2 := by
  obtain ⟨_, _, _, rfl, _⟩ := h
  rfl
theorem ok_KeyOrder___iadd__ {f : Addr} {fd : FuncData} {f_KeyOrder___add__ : Addr} {fd_KeyOrder___add__ : FuncData} (F : Fun K "__iadd__" "KeyOrder.__iadd__" s_KeyOrder___iadd__ f fd) (T : Gs K mg t_LETTERS t_LONGEST_NAME a_RESERVED a_BadName a_BadOrder a_ElseputError a_KeyOrder a_UnknownKey) (c_KeyOrder___add__ : CalT P w K mg base (L2.CX P w) 6 a_KeyOrder .Add f_KeyOrder___add__ fd_KeyOrder___add__ ["self", "name"] (sp_KeyOrder___add__ K)) : FnOk P w K mg base (L2.CX P w) 7 f fd ["self", "name"] (sp_KeyOrder___iadd__ K) := by
  refine F.okX sc_KeyOrder___iadd__ (fun vs H Q E h => len_KeyOrder___iadd__ h) (fun cdv A outer s H vs Q E hr h => ?_)
  obtain ⟨a, z, zs, rfl, hA, lz, hn, hd, z1, z2, q⟩ := h
  obtain ⟨C, dx, t, hC, ha, ht⟩ := id hA
  cases hC.symm.trans T.n_KeyOrder
  refine ⟨_, (pss_cons (ps_set (i := 2) sc_KeyOrder___iadd__.nd rfl (.inl rfl) (pe_bopT c_KeyOrder___add__.ot c_KeyOrder___add__.G (hr.mono (by first | decide | omega)) c_KeyOrder___add__.b (passes_call (takes_of rfl rfl rfl rfl) (fun _ _ _ _ h => h)) (v_ 0) (v_ 1))) (pss_cons (ps_fld (v_ 0) (e_f K (v_ 2)) (by rfl)) (pss_one (ps_ret (v_ 0))))), ?_⟩
  refine ⟨a, dx, _, z, rfl, rfl, ha, a, z, zs, rfl, hA, lz, hn, hd, z1, z2, q.mono fun k H1 b s1 nb hB => ?_⟩
  obtain ⟨C2, dx2, t2, hC2, hb, ht2⟩ := hB
  cases hC2.symm.trans T.n_KeyOrder
  refine ⟨b, a_KeyOrder, dx2, _, _, rfl, hb, T.cl_KeyOrder, T.na_KeyOrder_names, rfl, ?_⟩
  refine ⟨a, a_KeyOrder, dx, _, rfl, s1 _ _ ha, T.cl_KeyOrder, T.na_KeyOrder_names, (by show 1 < 1000; decide), ?_⟩
  have ta : t2 ≠ a := ne_of ht2 (s1 _ _ ha) (by intro e; cases e)
  refine k _ (fun c o nc hc => by rw [upd_ne nc]; exact s1 _ _ hc) ⟨a_KeyOrder, dx, t2, T.n_KeyOrder, ?_, by rw [upd_ne ta]; exact ht2⟩
  rw [upd_same]
  rfl
def sp_KeyOrder___sub__ (K : PySem.W.Frag) : Sp := fun vs H Q E => ∃ (a : Addr) (z : Str) (zs : List Str), vs = [.ref a, .str z] ∧ OrAt K H a zs ∧ zs.length ≤ 15 ∧ Nms zs ∧ zs.Nodup ∧ z.length ≤ 1000 ∧ Asc z ∧ (if z ∈ zs then ∀ (H' : Hp) (b : Addr), Same H H' → H b = none → OrAt K H' b (zs.filter fun y => decide (y ≠ z)) → Q (.ref b) H' else UnkN K H z E)
theorem len_KeyOrder___sub__ {vs : List V} {H : Hp} {Q : VK} {E : XK} (h : sp_KeyOrder___sub__ K vs H Q E) : vs.length = 2 := by
  obtain ⟨_, _, _, rfl, _⟩ := h
  rfl
theorem ok_KeyOrder___sub__ {f : Addr} {fd : FuncData} {f_KeyOrder___init__ : Addr} {fd_KeyOrder___init__ : FuncData} {f_UnknownKey : Addr} {fd_UnknownKey : FuncData} (F : Fun K "__sub__" "KeyOrder.__sub__" s_KeyOrder___sub__ f fd) (T : Gs K mg t_LETTERS t_LONGEST_NAME a_RESERVED a_BadName a_BadOrder a_ElseputError a_KeyOrder a_UnknownKey) (c_KeyOrder___init__ : CalI P w K mg base (L2.CX P w) 4 "KeyOrder" a_KeyOrder f_KeyOrder___init__ fd_KeyOrder___init__ ["self", "names"] (sp_KeyOrder___init__ K)) (c_UnknownKey : CalEI P w K mg base 1 "UnknownKey" a_UnknownKey f_UnknownKey fd_UnknownKey ["self", "name"] okx_UnknownKey fs_UnknownKey ["name"]) : FnOk P w K mg base (L2.CX P w) 6 f fd ["self", "name"] (sp_KeyOrder___sub__ K) := by
  refine F.okX sc_KeyOrder___sub__ (fun vs H Q E h => len_KeyOrder___sub__ h) (fun cdv A outer s H vs Q E hr h => ?_)
  obtain ⟨a, z, zs, rfl, ⟨C, dx, t, hC, ha, ht⟩, lz, hn, hd, z1, z2, q⟩ := h
  cases hC.symm.trans T.n_KeyOrder
  refine ⟨_, (pss_cons (ps_if (pt_c (notInK K) (v_ 1) (e_f K (v_ 0))) (pss_one (ps_raise rfl (takes_of rfl rfl rfl rfl) (pmk_oex c_UnknownKey.oex c_UnknownKey.iC c_UnknownKey.tI c_UnknownKey.G (hr.mono (by first | decide | omega)) c_UnknownKey.b .nil pass0 rfl c_UnknownKey.m (pa_cons (v_ 1) pa_nil)))) pss_nil) (pss_one (ps_ret (pe_make c_KeyOrder___init__.mkc c_KeyOrder___init__.G (hr.mono (by first | decide | omega)) rfl c_KeyOrder___init__.m c_KeyOrder___init__.b .nil (passes_call (takes_of rfl rfl rfl rfl) (fun _ _ _ _ h => h)) (pa_cons (pe_lc (own := [("other", 2)]) (g := gName 2) (by rfl) sc_KeyOrder___sub__.nd (pi_tup (e_f K (v_ 0))) (blkOk_by (N := ["self", "name", "other"]) (sc := defScope s_KeyOrder___sub__) (by decide +kernel)) (fun _ _ _ _ _ => pg_name (i := 2) sc_KeyOrder___sub__.nd rfl (Or.inl rfl)) (fun _ _ _ _ _ => pts_one (pt_c (neK K hr.units) (v_ 2) (v_ 1))) (fun _ _ _ _ _ => (v_ 2))) pa_nil))))), ?_⟩
  refine ⟨a, a_KeyOrder, dx, _, _, rfl, ha, T.cl_KeyOrder, T.na_KeyOrder_names, rfl, _, .inr (SqT.of ht), rfl, flat_strs, ?_⟩
  refine ite2 (fun e => ?_) (fun e => ?_)
  · have e : z ∉ zs := by
      have e : (!inV (.str z) (zs.map V.str)) = true := e
      rw [inV_str] at e
      simpa using e
    rw [if_neg e] at q
    refine mk_spE (by show 1 ≤ 1000; decide) ⟨z, rfl, z1, z2⟩ (fun d nd => ?_)
    exact q a_UnknownKey d _ T.n_UnknownKey (same_new nd) nd upd_same
  · have e : z ∈ zs := by
      have e : ¬ (!inV (.str z) (zs.map V.str)) = true := e
      rw [inV_str] at e
      simpa using e
    rw [if_pos e] at q
    refine ⟨a, a_KeyOrder, dx, _, _, rfl, ha, T.cl_KeyOrder, T.na_KeyOrder_names, rfl, t, rfl, ⟨_, SqT.of ht⟩, fun D nD => ?_⟩
    refine lc_it (walk_tup (xs := zs.map V.str)) (fun j H2 => Same H H2 ∧ H2 D = some (.lst (((zs.take j).filter fun y => decide (y ≠ z)).map V.str))) ⟨same_new nD, upd_same⟩ (fun _ _ _ h => SqT.of (h.1 _ _ ht)) ?_ ?_
    · rintro j v H3 H4 hj ⟨s3, hD⟩ ⟨rfl, hv⟩
      have hv : (zs.map V.str)[j]? = some v := hv
      rw [List.getElem?_map] at hv
      obtain ⟨u, eu, rfl⟩ := Option.map_eq_some_iff.mp hv
      refine ⟨rfl, ?_⟩
      refine ite2 (fun e => ?_) (fun e => ?_)
      · have e : u ≠ z := by
          have e : (!decide (u = z)) = true := e
          simpa using e
        refine ⟨_, hD, line_lt ?_, fun b o hb => ?_, ?_⟩
        · have h2 := List.length_filter_le (fun y => decide (y ≠ z)) (zs.take j)
          rw [List.length_map]
          rw [List.length_take] at h2
          omega
        · rw [upd_ne (ne_of_none hb nD)]
          exact s3 _ _ hb
        · have e5 : (zs.take (j + 1)).filter (fun y => decide (y ≠ z)) = (zs.take j).filter (fun y => decide (y ≠ z)) ++ [u] := by rw [take_snoc eu, List.filter_append, List.filter_cons_of_pos (by simpa using e), List.filter_nil]
          rw [upd_same, e5]
          simp
      · have e : u = z := by
          have e : ¬ (!decide (u = z)) = true := e
          simpa using e
        refine ⟨s3, ?_⟩
        rw [hD, take_snoc eu, List.filter_append, List.filter_cons_of_neg (by simpa using e), List.filter_nil, List.append_nil]
    · rintro H2 ⟨s2, hD⟩
      rw [List.length_map, List.take_length] at hD
      have fl := List.length_filter_le (fun y => decide (y ≠ z)) zs
      have fn : Nms (zs.filter fun y => decide (y ≠ z)) := fun y hy => hn y (List.mem_filter.mp hy).1
      have fd2 : (zs.filter fun y => decide (y ≠ z)).Nodup := hd.sublist List.filter_sublist
      intro x dx2 nx nd ne
      refine ⟨x, D, a_KeyOrder, dx2, _, rfl, T.n_KeyOrder, upd_same, .inl (same_mk nx nd _ _ hD), by omega, fn.asc, inits_of T.n_KeyOrder nx nd (mk_out fn fd2 fun H' s hA => ⟨rfl, q H' x (s2.trans s) (Same.free s2 nx) hA⟩)⟩
def sp_KeyOrder___invert__ (K : PySem.W.Frag) : Sp := fun vs H Q _ => ∃ (a : Addr) (zs : List Str), vs = [.ref a] ∧ OrAt K H a zs ∧ zs.length ≤ 15 ∧ Nms zs ∧ zs.Nodup ∧ ∀ (H' : Hp) (b : Addr), Same H H' → H b = none → OrAt K H' b zs.reverse → Q (.ref b) H'
theorem len_KeyOrder___invert__ {vs : List V} {H : Hp} {Q : VK} {E : XK} (h : sp_KeyOrder___invert__ K vs H Q E) : vs.length = 1 := by
  obtain ⟨_, _, rfl, _⟩ := h
  rfl
theorem ok_KeyOrder___invert__ {f : Addr} {fd : FuncData} {f_KeyOrder___init__ : Addr} {fd_KeyOrder___init__ : FuncData} (F : Fun K "__invert__" "KeyOrder.__invert__" s_KeyOrder___invert__ f fd) (T : Gs K mg t_LETTERS t_LONGEST_NAME a_RESERVED a_BadName a_BadOrder a_ElseputError a_KeyOrder a_UnknownKey) (c_KeyOrder___init__ : CalI P w K mg base (L2.CX P w) 4 "KeyOrder" a_KeyOrder f_KeyOrder___init__ fd_KeyOrder___init__ ["self", "names"] (sp_KeyOrder___init__ K)) : FnOk P w K mg base (L2.CX P w) 6 f fd ["self"] (sp_KeyOrder___invert__ K) := by
  refine F.okX sc_KeyOrder___invert__ (fun vs H Q E h => len_KeyOrder___invert__ h) (fun cdv A outer s H vs Q E hr h => ?_)
  obtain ⟨a, zs, rfl, ⟨C, dx, t, hC, ha, ht⟩, lz, hn, hd, q⟩ := h
  cases hC.symm.trans T.n_KeyOrder
  refine ⟨_, (pss_one (ps_ret (pe_make c_KeyOrder___init__.mkc c_KeyOrder___init__.G (hr.mono (by first | decide | omega)) rfl c_KeyOrder___init__.m c_KeyOrder___init__.b .nil (passes_call (takes_of rfl rfl rfl rfl) (fun _ _ _ _ h => h)) (pa_cons (pe_revT (e_f K (v_ 0))) pa_nil)))), ?_⟩
  refine ⟨a, a_KeyOrder, dx, _, _, rfl, ha, T.cl_KeyOrder, T.na_KeyOrder_names, rfl, t, _, rfl, SqT.of ht, fun p np => ?_⟩
  have sp := same_new (o := .tup (zs.map V.str).reverse) np
  have hp : (upd H p (.tup (zs.map V.str).reverse)) p = some (.tup (zs.reverse.map V.str)) := by rw [upd_same, List.map_reverse]
  have rn : Nms zs.reverse := fun y hy => hn y (List.mem_reverse.mp hy)
  have rd : zs.reverse.Nodup := (List.reverse_perm zs).nodup_iff.mpr hd
  intro x dx2 nx nd ne
  exact ⟨x, p, a_KeyOrder, dx2, zs.reverse, rfl, T.n_KeyOrder, upd_same, .inr (same_mk nx nd _ _ hp), by rw [List.length_reverse]; omega, rn.asc, inits_of T.n_KeyOrder nx nd (mk_out rn rd fun H' s hA => ⟨rfl, q H' x (sp.trans s) (free_new nx) hA⟩)⟩
end
section
variable {P : Program} {w : World} {K : PySem.W.Frag} {mg : Str → Option Value} {base : Heap}
variable {t_LETTERS t_LONGEST_NAME : Tok} {a_RESERVED a_BadName a_BadOrder a_ElseputError a_KeyOrder a_UnknownKey : Addr}
/-! ### a deed -/
/-- the refusals -/
def RefT (H : Hp) (t : Addr) (a b c : Bool) (v : V) : Prop := H t = some (.tup [.bl a, .bl b, .bl c, v])
/-- the list with the one order of ts -/
def OneAt (K : PySem.W.Frag) (H : Hp) (t b : Addr) (ts : List Str) : Prop := H t = some (.lst [.ref b]) ∧ OrAt K H b ts
/-- what a deed of this kind on the order at a tells; Q: the answer, the order it goes on with, the heap -/
def Deeds (K : PySem.W.Frag) (H : Hp) (a : Addr) (k : Int) (z : Str) (zs : List Str) (Q : VK) : Prop :=
  (k = 4 → ∀ (H' : Hp) (t b : Addr), Same H H' → H t = none → H b = none → OneAt K H' t b zs.reverse → Q (.ref t) H') ∧
  (k = 3 → z ∈ zs → ∀ (H' : Hp) (t b : Addr), Same H H' → H t = none → H b = none → OneAt K H' t b (zs.filter fun y => decide (y ≠ z)) → Q (.ref t) H') ∧
  (k = 3 → z ∉ zs → ∀ (H' : Hp) (t : Addr), Same H H' → RefT H' t false false true (.str z) → Q (.ref t) H') ∧
  (0 ≤ k → k ≤ 2 → isName z = false → ∀ (H' : Hp) (t : Addr), Same H H' → RefT H' t true false false (.str z) → Q (.ref t) H') ∧
  (0 ≤ k → k ≤ 2 → isName z = true → z ∈ zs → ∀ (H' : Hp) (t : Addr), Same H H' → RefT H' t false true false .non → Q (.ref t) H') ∧
  (k = 0 → isName z = true → z ∉ zs → ∀ (H' : Hp) (t b : Addr), Same H H' → H t = none → H b = none → OneAt K H' t b (zs ++ [z]) → Q (.ref t) H') ∧
  (k = 1 → isName z = true → z ∉ zs → ∀ (H' : Hp) (t b : Addr), Same H H' → H t = none → H b = none → OneAt K H' t b (z :: zs) → Q (.ref t) H') ∧
  (k = 2 → isName z = true → z ∉ zs → ∀ (H' : Hp) (t : Addr), Bt a H H' → H t = none → OneAt K H' t a (zs ++ [z]) → Q (.ref t) H')
def sp__law_deed (K : PySem.W.Frag) : Sp := fun vs H Q _ => ∃ (a : Addr) (k : Int) (z : Str) (zs : List Str), vs = [.ref a, .int k, .str z] ∧ OrAt K H a zs ∧ zs.length ≤ 15 ∧ Nms zs ∧ zs.Nodup ∧ z.length ≤ 1000 ∧ Asc z ∧ 0 ≤ k ∧ k ≤ 4 ∧ Deeds K H a k z zs Q
theorem len__law_deed {vs : List V} {H : Hp} {Q : VK} {E : XK} (h : sp__law_deed K vs H Q E) : vs.length = 3 := by
  obtain ⟨_, _, _, _, rfl, _⟩ := h
  rfl
theorem ok__law_deed {f : Addr} {fd : FuncData} {f_KeyOrder___add__ : Addr} {fd_KeyOrder___add__ : FuncData} {f_KeyOrder___radd__ : Addr} {fd_KeyOrder___radd__ : FuncData} {f_KeyOrder___iadd__ : Addr} {fd_KeyOrder___iadd__ : FuncData} {f_KeyOrder___sub__ : Addr} {fd_KeyOrder___sub__ : FuncData} {f_KeyOrder___invert__ : Addr} {fd_KeyOrder___invert__ : FuncData} (F : Fun K "_law_deed" "_law_deed" s__law_deed f fd) (T : Gs K mg t_LETTERS t_LONGEST_NAME a_RESERVED a_BadName a_BadOrder a_ElseputError a_KeyOrder a_UnknownKey) (c_KeyOrder___add__ : CalT P w K mg base (L2.CX P w) 6 a_KeyOrder .Add f_KeyOrder___add__ fd_KeyOrder___add__ ["self", "name"] (sp_KeyOrder___add__ K)) (c_KeyOrder___radd__ : CalRad P w K mg base (L2.CX P w) 6 a_KeyOrder f_KeyOrder___radd__ fd_KeyOrder___radd__ ["self", "name"] (sp_KeyOrder___radd__ K)) (c_KeyOrder___iadd__ : CalInp P w K mg base (L2.CX P w) 7 a_KeyOrder .Add f_KeyOrder___iadd__ fd_KeyOrder___iadd__ ["self", "name"] (sp_KeyOrder___iadd__ K)) (c_KeyOrder___sub__ : CalT P w K mg base (L2.CX P w) 6 a_KeyOrder .Sub f_KeyOrder___sub__ fd_KeyOrder___sub__ ["self", "name"] (sp_KeyOrder___sub__ K)) (c_KeyOrder___invert__ : CalInv P w K mg base (L2.CX P w) 6 a_KeyOrder f_KeyOrder___invert__ fd_KeyOrder___invert__ ["self"] (sp_KeyOrder___invert__ K)) : FnOk P w K mg base CX0 8 f fd ["_law_order", "_law_kind", "_law_name"] (sp__law_deed K) := by
  refine F.ok sc__law_deed (fun vs H Q E h => len__law_deed h) (fun cdv A outer s H vs Q E hr h => ?_)
  obtain ⟨a, k, z, zs, rfl, hA, lz, hn, hd, z1, z2, k0, k4, d4, d3, u3, bn, bo, d0, d1, d2⟩ := h
  obtain ⟨C, dx, t, hC, ha, ht⟩ := id hA
  cases hC.symm.trans T.n_KeyOrder
  refine ⟨_, (pss_one (ps_try_as (i := 3) rfl rfl sc__law_deed.nd rfl rfl ⟨rfl, by decide +kernel, .inl T.g_ElseputError⟩ takes0 (fun W pn xe tk po => (pss_cons (ps_if (pt_c (eqK K hr.units) (v_ 1) pe_int) (pss_one (ps_ret (pe_lst (pa_cons (pe_bopTS c_KeyOrder___add__.ot c_KeyOrder___add__.G (hr.mono (by first | decide | omega)) c_KeyOrder___add__.b (fun σ => passAt tk σ) (v_ 0) (v_ 2)) pa_nil)))) pss_nil) (pss_cons (ps_if (pt_c (eqK K hr.units) (v_ 1) pe_int) (pss_one (ps_ret (pe_lst (pa_cons (pe_radS c_KeyOrder___radd__.ra c_KeyOrder___radd__.G (hr.mono (by first | decide | omega)) c_KeyOrder___radd__.b (fun σ => passAt tk σ) (v_ 2) (v_ 0)) pa_nil)))) pss_nil) (pss_cons (ps_if (pt_c (eqK K hr.units) (v_ 1) pe_int) (pss_cons (ps_augTS (i := 0) sc__law_deed.nd rfl (.inl rfl) c_KeyOrder___iadd__.ip c_KeyOrder___iadd__.G (hr.mono (by first | decide | omega)) c_KeyOrder___iadd__.b (fun σ => passAt tk σ) (v_ 2)) (pss_one (ps_ret (pe_lst (pa_cons (v_ 0) pa_nil))))) pss_nil) (pss_cons (ps_if (pt_c (eqK K hr.units) (v_ 1) pe_int) (pss_one (ps_ret (pe_lst (pa_cons (pe_bopTS c_KeyOrder___sub__.ot c_KeyOrder___sub__.G (hr.mono (by first | decide | omega)) c_KeyOrder___sub__.b (fun σ => passAt tk σ) (v_ 0) (v_ 2)) pa_nil)))) pss_nil) (pss_one (ps_ret (pe_lst (pa_cons (pe_un (un_own c_KeyOrder___invert__.iv c_KeyOrder___invert__.G (hr.mono (by first | decide | omega)) c_KeyOrder___invert__.b passL) (v_ 0)) pa_nil))))))))) (fun ea oe ecls ed epn hz hf => (pss_cons (ps_set (i := 4) sc__law_deed.nd rfl (.inl rfl) pe_non) (Evl.pss_cut (ps_if (PW.pt (pw_or (pt_t K (pe_callB (call_isN hz hf) (by rfl) T.z_isinstance (by decide +kernel) (pa_cons (v_ 3) (pa_cons (pe_glob (v := .ref a_BadName) rfl T.g_BadName rfl) pa_nil)))) (pw_or1 (pt_t K (pe_callB (call_isN hz hf) (by rfl) T.z_isinstance (by decide +kernel) (pa_cons (v_ 3) (pa_cons (pe_glob (v := .ref a_UnknownKey) rfl T.g_UnknownKey rfl) pa_nil))))))) (pss_one (ps_set (i := 4) sc__law_deed.nd rfl (.inl rfl) (pe_either (pe_xf T.x_BadName.xf (T.x_BadName.no _ (by decide)) hz hf (v_ 3)) (pe_xf T.x_UnknownKey.xf (T.x_UnknownKey.no _ (by decide)) hz hf (v_ 3))))) pss_nil) (pss_one (ps_ret (pe_tup (pa_cons (pe_callB (call_isN hz hf) (by rfl) T.z_isinstance (by decide +kernel) (pa_cons (v_ 3) (pa_cons (pe_glob (v := .ref a_BadName) rfl T.g_BadName rfl) pa_nil))) (pa_cons (pe_callB (call_isN hz hf) (by rfl) T.z_isinstance (by decide +kernel) (pa_cons (v_ 3) (pa_cons (pe_glob (v := .ref a_BadOrder) rfl T.g_BadOrder rfl) pa_nil))) (pa_cons (pe_callB (call_isN hz hf) (by rfl) T.z_isinstance (by decide +kernel) (pa_cons (v_ 3) (pa_cons (pe_glob (v := .ref a_UnknownKey) rfl T.g_UnknownKey rfl) pa_nil))) (pa_cons (v_ 4) pa_nil)))))))))))), ?_⟩
  refine ite2 (fun e => ?_) (fun e => ?_)
  · have e : k = 0 := of_decide_eq_true e
    refine ⟨a, dx, _, z, rfl, rfl, ha, a, z, zs, rfl, hA, lz, hn, hd, z1, z2, ?_⟩
    unfold AddOut
    by_cases hz : isName z = true
    · rw [if_pos hz]
      by_cases hm : z ∈ zs
      · rw [if_pos hm]
        intro C3 H1 hC3 sm
        cases hC3.symm.trans T.n_BadOrder
        refine ⟨true, T.m_BadOrder_ElseputError, fun _ e ne => ?_, fun h => nomatch h⟩
        refine ⟨fun σ' H' => H' = H1 ∧ σ' = [some (.ref a), some (.int k), some (.str z), some (.ref e), some .non], ?_, ?_⟩
        · refine .inr ⟨_, _, _, false, rfl, rfl, rfl, T.x_BadOrder.is, fun u h => h, T.k_BadOrder_BadName, ?_⟩
          refine .inr ⟨_, _, _, false, rfl, rfl, rfl, T.x_BadOrder.is, fun u h => h, T.k_BadOrder_UnknownKey, ?_⟩
          exact ⟨rfl, rfl⟩
        rintro σ' H' ⟨rfl, rfl⟩
        refine .inr ⟨_, _, _, false, rfl, rfl, rfl, T.x_BadOrder.is, fun u h => h, T.k_BadOrder_BadName, ?_⟩
        refine .inr ⟨_, _, _, true, rfl, rfl, rfl, T.x_BadOrder.is, fun u h => h, T.k_BadOrder_BadOrder, ?_⟩
        refine .inr ⟨_, _, _, false, rfl, rfl, rfl, T.x_BadOrder.is, fun u h => h, T.k_BadOrder_UnknownKey, ?_⟩
        refine ⟨(by show 4 ≤ sizeLine; decide), fun t nt => ?_⟩
        exact bo k0 (by omega) hz hm _ t (sm.trans (same_new nt)) upd_same
      · rw [if_neg hm]
        intro H1 b s1 nb hB
        refine ⟨(by show 1 ≤ sizeLine; decide), fun t nt => ?_⟩
        have s2 := same_new (o := .lst [.ref b]) nt
        exact d0 e hz hm _ t b (s1.trans s2) (Same.free s1 nt) nb ⟨upd_same, hB.same s2⟩
    · rw [if_neg hz]
      intro C3 d H1 hC3 sm nd hd3
      cases hC3.symm.trans T.n_BadName
      refine ⟨true, T.m_BadName_ElseputError, fun _ e ne => ?_, fun h => nomatch h⟩
      refine ⟨fun σ' H' => H' = H1 ∧ σ' = [some (.ref a), some (.int k), some (.str z), some (.ref e), some (.str z)], ?_, ?_⟩
      · refine .inl ⟨_, d, _, _, _, true, rfl, rfl, rfl, hd3, T.x_BadName.is, fun u h => h, T.k_BadName_BadName, ?_⟩
        exact .inl ⟨rfl, rfl, d, _, _, rfl, hd3, rfl, rfl, rfl⟩
      rintro σ' H' ⟨rfl, rfl⟩
      refine .inl ⟨_, d, _, _, _, true, rfl, rfl, rfl, hd3, T.x_BadName.is, fun u h => h, T.k_BadName_BadName, ?_⟩
      refine .inl ⟨_, d, _, _, _, false, rfl, rfl, rfl, hd3, T.x_BadName.is, fun u h => h, T.k_BadName_BadOrder, ?_⟩
      refine .inl ⟨_, d, _, _, _, false, rfl, rfl, rfl, hd3, T.x_BadName.is, fun u h => h, T.k_BadName_UnknownKey, ?_⟩
      refine ⟨(by show 4 ≤ sizeLine; decide), fun t nt => ?_⟩
      exact bn k0 (by omega) (Bool.eq_false_iff.mpr hz) _ t (sm.trans (same_new nt)) upd_same
  have e0 : ¬ k = 0 := of_decide_eq_false (Bool.eq_false_iff.mpr e)
  clear e
  refine ite2 (fun e => ?_) (fun e => ?_)
  · have e : k = 1 := of_decide_eq_true e
    refine ⟨a, dx, _, z, rfl, rfl, ha, a, z, zs, rfl, hA, lz, hn, hd, z1, z2, ?_⟩
    unfold AddOut
    by_cases hz : isName z = true
    · rw [if_pos hz]
      by_cases hm : z ∈ zs
      · rw [if_pos hm]
        intro C3 H1 hC3 sm
        cases hC3.symm.trans T.n_BadOrder
        refine ⟨true, T.m_BadOrder_ElseputError, fun _ e ne => ?_, fun h => nomatch h⟩
        refine ⟨fun σ' H' => H' = H1 ∧ σ' = [some (.ref a), some (.int k), some (.str z), some (.ref e), some .non], ?_, ?_⟩
        · refine .inr ⟨_, _, _, false, rfl, rfl, rfl, T.x_BadOrder.is, fun u h => h, T.k_BadOrder_BadName, ?_⟩
          refine .inr ⟨_, _, _, false, rfl, rfl, rfl, T.x_BadOrder.is, fun u h => h, T.k_BadOrder_UnknownKey, ?_⟩
          exact ⟨rfl, rfl⟩
        rintro σ' H' ⟨rfl, rfl⟩
        refine .inr ⟨_, _, _, false, rfl, rfl, rfl, T.x_BadOrder.is, fun u h => h, T.k_BadOrder_BadName, ?_⟩
        refine .inr ⟨_, _, _, true, rfl, rfl, rfl, T.x_BadOrder.is, fun u h => h, T.k_BadOrder_BadOrder, ?_⟩
        refine .inr ⟨_, _, _, false, rfl, rfl, rfl, T.x_BadOrder.is, fun u h => h, T.k_BadOrder_UnknownKey, ?_⟩
        refine ⟨(by show 4 ≤ sizeLine; decide), fun t nt => ?_⟩
        exact bo k0 (by omega) hz hm _ t (sm.trans (same_new nt)) upd_same
      · rw [if_neg hm]
        intro H1 b s1 nb hB
        refine ⟨(by show 1 ≤ sizeLine; decide), fun t nt => ?_⟩
        have s2 := same_new (o := .lst [.ref b]) nt
        exact d1 e hz hm _ t b (s1.trans s2) (Same.free s1 nt) nb ⟨upd_same, hB.same s2⟩
    · rw [if_neg hz]
      intro C3 d H1 hC3 sm nd hd3
      cases hC3.symm.trans T.n_BadName
      refine ⟨true, T.m_BadName_ElseputError, fun _ e ne => ?_, fun h => nomatch h⟩
      refine ⟨fun σ' H' => H' = H1 ∧ σ' = [some (.ref a), some (.int k), some (.str z), some (.ref e), some (.str z)], ?_, ?_⟩
      · refine .inl ⟨_, d, _, _, _, true, rfl, rfl, rfl, hd3, T.x_BadName.is, fun u h => h, T.k_BadName_BadName, ?_⟩
        exact .inl ⟨rfl, rfl, d, _, _, rfl, hd3, rfl, rfl, rfl⟩
      rintro σ' H' ⟨rfl, rfl⟩
      refine .inl ⟨_, d, _, _, _, true, rfl, rfl, rfl, hd3, T.x_BadName.is, fun u h => h, T.k_BadName_BadName, ?_⟩
      refine .inl ⟨_, d, _, _, _, false, rfl, rfl, rfl, hd3, T.x_BadName.is, fun u h => h, T.k_BadName_BadOrder, ?_⟩
      refine .inl ⟨_, d, _, _, _, false, rfl, rfl, rfl, hd3, T.x_BadName.is, fun u h => h, T.k_BadName_UnknownKey, ?_⟩
      refine ⟨(by show 4 ≤ sizeLine; decide), fun t nt => ?_⟩
      exact bn k0 (by omega) (Bool.eq_false_iff.mpr hz) _ t (sm.trans (same_new nt)) upd_same
  have e1 : ¬ k = 1 := of_decide_eq_false (Bool.eq_false_iff.mpr e)
  clear e
  refine ite2 (fun e => ?_) (fun e => ?_)
  · have e : k = 2 := of_decide_eq_true e
    refine ⟨a, rfl, dx, _, z, rfl, ha, a, z, zs, rfl, hA, lz, hn, hd, z1, z2, ?_⟩
    unfold AddOut
    by_cases hz : isName z = true
    · rw [if_pos hz]
      by_cases hm : z ∈ zs
      · rw [if_pos hm]
        intro C3 H1 hC3 sm
        cases hC3.symm.trans T.n_BadOrder
        refine ⟨true, T.m_BadOrder_ElseputError, fun _ e ne => ?_, fun h => nomatch h⟩
        refine ⟨fun σ' H' => H' = H1 ∧ σ' = [some (.ref a), some (.int k), some (.str z), some (.ref e), some .non], ?_, ?_⟩
        · refine .inr ⟨_, _, _, false, rfl, rfl, rfl, T.x_BadOrder.is, fun u h => h, T.k_BadOrder_BadName, ?_⟩
          refine .inr ⟨_, _, _, false, rfl, rfl, rfl, T.x_BadOrder.is, fun u h => h, T.k_BadOrder_UnknownKey, ?_⟩
          exact ⟨rfl, rfl⟩
        rintro σ' H' ⟨rfl, rfl⟩
        refine .inr ⟨_, _, _, false, rfl, rfl, rfl, T.x_BadOrder.is, fun u h => h, T.k_BadOrder_BadName, ?_⟩
        refine .inr ⟨_, _, _, true, rfl, rfl, rfl, T.x_BadOrder.is, fun u h => h, T.k_BadOrder_BadOrder, ?_⟩
        refine .inr ⟨_, _, _, false, rfl, rfl, rfl, T.x_BadOrder.is, fun u h => h, T.k_BadOrder_UnknownKey, ?_⟩
        refine ⟨(by show 4 ≤ sizeLine; decide), fun t nt => ?_⟩
        exact bo k0 (by omega) hz hm _ t (sm.trans (same_new nt)) upd_same
      · rw [if_neg hm]
        intro H1 b1 hB
        refine ⟨(by show 1 ≤ sizeLine; decide), fun t nt => ?_⟩
        have s2 := same_new (o := .lst [.ref a]) nt
        have nt0 : H t = none := by
          by_cases e : H t = none
          · exact e
          · obtain ⟨o, ho⟩ := Option.ne_none_iff_exists'.mp e
            by_cases eta : t = a
            · obtain ⟨C4, dx4, t4, hC4, h4, _⟩ := hB
              rw [eta, h4] at nt
              cases nt
            · rw [b1 t o eta ho] at nt
              cases nt
        exact d2 e hz hm _ t (b1.trans (Bt.same s2)) nt0 ⟨upd_same, hB.same s2⟩
    · rw [if_neg hz]
      intro C3 d H1 hC3 sm nd hd3
      cases hC3.symm.trans T.n_BadName
      refine ⟨true, T.m_BadName_ElseputError, fun _ e ne => ?_, fun h => nomatch h⟩
      refine ⟨fun σ' H' => H' = H1 ∧ σ' = [some (.ref a), some (.int k), some (.str z), some (.ref e), some (.str z)], ?_, ?_⟩
      · refine .inl ⟨_, d, _, _, _, true, rfl, rfl, rfl, hd3, T.x_BadName.is, fun u h => h, T.k_BadName_BadName, ?_⟩
        exact .inl ⟨rfl, rfl, d, _, _, rfl, hd3, rfl, rfl, rfl⟩
      rintro σ' H' ⟨rfl, rfl⟩
      refine .inl ⟨_, d, _, _, _, true, rfl, rfl, rfl, hd3, T.x_BadName.is, fun u h => h, T.k_BadName_BadName, ?_⟩
      refine .inl ⟨_, d, _, _, _, false, rfl, rfl, rfl, hd3, T.x_BadName.is, fun u h => h, T.k_BadName_BadOrder, ?_⟩
      refine .inl ⟨_, d, _, _, _, false, rfl, rfl, rfl, hd3, T.x_BadName.is, fun u h => h, T.k_BadName_UnknownKey, ?_⟩
      refine ⟨(by show 4 ≤ sizeLine; decide), fun t nt => ?_⟩
      exact bn k0 (by omega) (Bool.eq_false_iff.mpr hz) _ t (sm.trans (same_new nt)) upd_same
  have e2 : ¬ k = 2 := of_decide_eq_false (Bool.eq_false_iff.mpr e)
  clear e
  refine ite2 (fun e => ?_) (fun e => ?_)
  · have e : k = 3 := of_decide_eq_true e
    refine ⟨a, dx, _, z, rfl, rfl, ha, a, z, zs, rfl, hA, lz, hn, hd, z1, z2, ?_⟩
    by_cases hm : z ∈ zs
    · rw [if_pos hm]
      intro H1 b s1 nb hB
      refine ⟨(by show 1 ≤ sizeLine; decide), fun t nt => ?_⟩
      have s2 := same_new (o := .lst [.ref b]) nt
      exact d3 e hm _ t b (s1.trans s2) (Same.free s1 nt) nb ⟨upd_same, hB.same s2⟩
    · rw [if_neg hm]
      intro C3 d H1 hC3 sm nd hd3
      cases hC3.symm.trans T.n_UnknownKey
      refine ⟨true, T.m_UnknownKey_ElseputError, fun _ e ne => ?_, fun h => nomatch h⟩
      refine ⟨fun σ' H' => H' = H1 ∧ σ' = [some (.ref a), some (.int k), some (.str z), some (.ref e), some (.str z)], ?_, ?_⟩
      · refine .inl ⟨_, d, _, _, _, false, rfl, rfl, rfl, hd3, T.x_UnknownKey.is, fun u h => h, T.k_UnknownKey_BadName, ?_⟩
        refine .inl ⟨_, d, _, _, _, true, rfl, rfl, rfl, hd3, T.x_UnknownKey.is, fun u h => h, T.k_UnknownKey_UnknownKey, ?_⟩
        exact .inr ⟨rfl, rfl, d, _, _, rfl, hd3, rfl, rfl, rfl⟩
      rintro σ' H' ⟨rfl, rfl⟩
      refine .inl ⟨_, d, _, _, _, false, rfl, rfl, rfl, hd3, T.x_UnknownKey.is, fun u h => h, T.k_UnknownKey_BadName, ?_⟩
      refine .inl ⟨_, d, _, _, _, false, rfl, rfl, rfl, hd3, T.x_UnknownKey.is, fun u h => h, T.k_UnknownKey_BadOrder, ?_⟩
      refine .inl ⟨_, d, _, _, _, true, rfl, rfl, rfl, hd3, T.x_UnknownKey.is, fun u h => h, T.k_UnknownKey_UnknownKey, ?_⟩
      refine ⟨(by show 4 ≤ sizeLine; decide), fun t nt => ?_⟩
      exact u3 ‹_› hm _ t (sm.trans (same_new nt)) upd_same
  have e3 : ¬ k = 3 := of_decide_eq_false (Bool.eq_false_iff.mpr e)
  refine ⟨a, dx, _, rfl, ha, a, zs, rfl, hA, lz, hn, hd, fun H1 b s1 nb hB => ?_⟩
  refine ⟨(by show 1 ≤ sizeLine; decide), fun t nt => ?_⟩
  have s2 := same_new (o := .lst [.ref b]) nt
  exact d4 (by omega) _ t b (s1.trans s2) (Same.free s1 nt) nb ⟨upd_same, hB.same s2⟩
end
section
variable {P : Program} {w : World} {K : PySem.W.Frag} {mg : Str → Option Value} {base : Heap}
variable {t_LETTERS t_LONGEST_NAME : Tok} {a_RESERVED a_BadName a_BadOrder a_ElseputError a_KeyOrder a_UnknownKey : Addr}
/-! ### what is due -/
inductive Res where
  | order (ts : List Str)
  | ref (a b c : Bool) (v : V)
def outD (k : Int) (z : Str) (zs : List Str) : Res :=
  if k = 4 then .order zs.reverse
  else if k = 3 then (if z ∈ zs then .order (zs.filter fun y => decide (y ≠ z)) else .ref false false true (.str z))
  else if isName z = false then .ref true false false (.str z)
  else if z ∈ zs then .ref false true false .non
  else if k = 1 then .order (z :: zs) else .order (zs ++ [z])
/-- a deed by what is due -/
def DeedOf (K : PySem.W.Frag) (H : Hp) (a : Addr) (k : Int) (Q : VK) : Res → Prop
  | .order ts => (k ≠ 2 → ∀ (H' : Hp) (t b : Addr), Same H H' → H t = none → H b = none → OneAt K H' t b ts → Q (.ref t) H') ∧ (k = 2 → ∀ (H' : Hp) (t : Addr), Bt a H H' → H t = none → OneAt K H' t a ts → Q (.ref t) H')
  | .ref x y c v => ∀ (H' : Hp) (t : Addr), Same H H' → RefT H' t x y c v → Q (.ref t) H'
theorem deeds_of {K : PySem.W.Frag} {H : Hp} {a : Addr} {k : Int} {z : Str} {zs : List Str} {Q : VK} (q : DeedOf K H a k Q (outD k z zs)) : Deeds K H a k z zs Q := by
  unfold outD at q
  refine ⟨fun e => ?_, fun e hm => ?_, fun e hm => ?_, fun h0 h2 hz => ?_, fun h0 h2 hz hm => ?_, fun e hz hm => ?_, fun e hz hm => ?_, fun e hz hm => ?_⟩
  · rw [if_pos e] at q
    exact q.1 (by omega)
  · rw [if_neg (by omega), if_pos e, if_pos hm] at q
    exact q.1 (by omega)
  · rw [if_neg (by omega), if_pos e, if_neg hm] at q
    exact q
  · rw [if_neg (by omega), if_neg (by omega), if_pos hz] at q
    exact q
  · rw [if_neg (by omega), if_neg (by omega), if_neg (by rw [hz]; decide), if_pos hm] at q
    exact q
  · rw [if_neg (by omega), if_neg (by omega), if_neg (by rw [hz]; decide), if_neg hm, if_neg (by omega)] at q
    exact q.1 (by omega)
  · rw [if_neg (by omega), if_neg (by omega), if_neg (by rw [hz]; decide), if_neg hm, if_pos e] at q
    exact q.1 (by omega)
  · rw [if_neg (by omega), if_neg (by omega), if_neg (by rw [hz]; decide), if_neg hm, if_neg (by omega)] at q
    exact q.2 e
/-- what is due stands at D -/
def DueAt (H : Hp) (D : Addr) : Res → Prop
  | .order ts => H D = some (.lst (ts.map V.str))
  | .ref a b c v => RefT H D a b c v
def sp__law_due (K : PySem.W.Frag) : Sp := fun vs H Q _ => ∃ (p n : Addr) (k : Int) (z : Str) (zs ns : List Str), vs = [.ref p, .int k, .str z, .ref n] ∧ H p = some (.lst (zs.map V.str)) ∧ H n = some (.lst (ns.map V.str)) ∧ zs.length ≤ 15 ∧ 0 ≤ k ∧ k ≤ 4 ∧ (isName z = true ↔ z ∈ ns) ∧ ∀ (H' : Hp) (D : Addr), Same H H' → H D = none → DueAt H' D (outD k z zs) → Q (.ref D) H'
theorem len__law_due {vs : List V} {H : Hp} {Q : VK} {E : XK} (h : sp__law_due K vs H Q E) : vs.length = 4 := by
  obtain ⟨_, _, _, _, _, _, rfl, _⟩ := h
  rfl
theorem ok__law_due {f : Addr} {fd : FuncData} (F : Fun K "_law_due" "_law_due" s__law_due f fd) (T : Gs K mg t_LETTERS t_LONGEST_NAME a_RESERVED a_BadName a_BadOrder a_ElseputError a_KeyOrder a_UnknownKey) : FnOk P w K mg base CX0 1 f fd ["_law_row", "_law_kind", "_law_name", "_law_names_here"] (sp__law_due K) := by
  refine F.ok sc__law_due (fun vs H Q E h => len__law_due h) (fun cdv A outer s H vs Q E hr h => ?_)
  obtain ⟨p, n, k, z, zs, ns, rfl, hp, hn, lz, k0, k4, hin, q⟩ := h
  refine ⟨_, (pss_cons (ps_if (pt_c (eqK K hr.units) (v_ 1) pe_int) (pss_one (ps_ret (pe_revL (v_ 0)))) pss_nil) (pss_cons (ps_if (PW.pt (pw_and (pt_c (eqK K hr.units) (v_ 1) pe_int) (pw_and1 (pt_c (notInK K) (v_ 2) (v_ 0))))) (pss_one (ps_ret (pe_tup (pa_cons pe_bl (pa_cons pe_bl (pa_cons pe_bl (pa_cons (v_ 2) pa_nil))))))) pss_nil) (pss_cons (ps_if (pt_c (eqK K hr.units) (v_ 1) pe_int) (pss_one (ps_ret (pe_lc (own := [("_law_other", 4)]) (g := gName 4) (by rfl) sc__law_due.nd (pi_list (v_ 0)) (blkOk_by (N := ["_law_row", "_law_kind", "_law_name", "_law_names_here", "_law_other"]) (sc := defScope s__law_due) (by decide +kernel)) (fun _ _ _ _ _ => pg_name (i := 4) sc__law_due.nd rfl (Or.inl rfl)) (fun _ _ _ _ _ => pts_one (pt_c (neK K hr.units) (v_ 4) (v_ 2))) (fun _ _ _ _ _ => (v_ 4))))) pss_nil) (pss_cons (ps_if (pt_c (notInK K) (v_ 2) (v_ 3)) (pss_one (ps_ret (pe_tup (pa_cons pe_bl (pa_cons pe_bl (pa_cons pe_bl (pa_cons (v_ 2) pa_nil))))))) pss_nil) (pss_cons (ps_if (pt_c (inK K) (v_ 2) (v_ 0)) (pss_one (ps_ret (pe_tup (pa_cons pe_bl (pa_cons pe_bl (pa_cons pe_bl (pa_cons pe_non pa_nil))))))) pss_nil) (pss_cons (ps_if (pt_c (eqK K hr.units) (v_ 1) pe_int) (pss_one (ps_ret (pe_op (addK K) (pe_lst (pa_cons (v_ 2) pa_nil)) (v_ 0)))) pss_nil) (pss_one (ps_ret (pe_op (addK K) (v_ 0) (pe_lst (pa_cons (v_ 2) pa_nil))))))))))), ?_⟩
  unfold outD at q
  refine ite2 (fun e => ?_) (fun e => ?_)
  · have e : k = 4 := of_decide_eq_true e
    rw [if_pos e] at q
    refine ⟨p, _, rfl, SqL.of hp, fun D nD => ?_⟩
    exact q _ D (same_new nD) nD (by show _ = _; rw [upd_same, List.map_reverse])
  have e4 : ¬ k = 4 := of_decide_eq_false (Bool.eq_false_iff.mpr e)
  clear e
  rw [if_neg e4] at q
  have in1 : ∀ {b : Bool} {ts : List Str}, (!inV (.str z) (ts.map V.str)) = b → decide (z ∉ ts) = b := fun {b ts} h => by
    rw [inV_str] at h
    rw [← h]
    simp
  refine ite2 (fun e => ?_) (fun e => ?_)
  · have e3 : k = 3 := of_decide_eq_true e
    rw [if_pos e3] at q
    refine ⟨_, .inl (SqL.of hp), rfl, flat_strs, ?_⟩
    refine ite2 (fun e => ?_) (fun e => ?_)
    · have e : z ∉ zs := of_decide_eq_true (in1 e)
      rw [if_neg e] at q
      refine ⟨(by show 4 ≤ sizeLine; decide), fun t nt => ?_⟩
      exact q _ t (same_new nt) nt upd_same
    · have e : z ∈ zs := by
        have e := in1 (Bool.eq_false_iff.mpr e)
        simpa using e
      rw [if_pos e] at q
      refine ite2 (fun _ => ?_) (fun e' => absurd (decide_eq_true e3) e')
      refine ⟨p, rfl, ⟨_, SqL.of hp⟩, fun D nD => ?_⟩
      refine lc_it (walk_list (xs := zs.map V.str)) (fun j H2 => Same H H2 ∧ H2 D = some (.lst (((zs.take j).filter fun y => decide (y ≠ z)).map V.str))) ⟨same_new nD, upd_same⟩ (fun _ _ _ h => SqL.of (h.1 _ _ hp)) ?_ ?_
      · rintro j v H3 H4 hj ⟨s3, hD⟩ ⟨rfl, hv⟩
        have hv : (zs.map V.str)[j]? = some v := hv
        rw [List.getElem?_map] at hv
        obtain ⟨u, eu, rfl⟩ := Option.map_eq_some_iff.mp hv
        refine ⟨rfl, ?_⟩
        refine ite2 (fun e => ?_) (fun e => ?_)
        · have e : u ≠ z := by
            have e : (!decide (u = z)) = true := e
            simpa using e
          refine ⟨_, hD, line_lt ?_, fun b o hb => ?_, ?_⟩
          · have h2 := List.length_filter_le (fun y => decide (y ≠ z)) (zs.take j)
            rw [List.length_map]
            rw [List.length_take] at h2
            omega
          · rw [upd_ne (ne_of_none hb nD)]
            exact s3 _ _ hb
          · have e5 : (zs.take (j + 1)).filter (fun y => decide (y ≠ z)) = (zs.take j).filter (fun y => decide (y ≠ z)) ++ [u] := by rw [take_snoc eu, List.filter_append, List.filter_cons_of_pos (by simpa using e), List.filter_nil]
            rw [upd_same, e5]
            simp
        · have e : u = z := by
            have e : ¬ (!decide (u = z)) = true := e
            simpa using e
          refine ⟨s3, ?_⟩
          rw [hD, take_snoc eu, List.filter_append, List.filter_cons_of_neg (by simpa using e), List.filter_nil, List.append_nil]
      · rintro H2 ⟨s2, hD⟩
        rw [List.length_map, List.take_length] at hD
        exact q H2 D s2 nD hD
  have e3 : ¬ k = 3 := of_decide_eq_false (Bool.eq_false_iff.mpr e)
  clear e
  rw [if_neg e3] at q
  refine ite2 (fun e => nomatch e) (fun _ => ?_)
  refine ite2 (fun e => absurd (of_decide_eq_true e) e3) (fun _ => ?_)
  refine ⟨_, .inl (SqL.of hn), rfl, flat_strs, ?_⟩
  refine ite2 (fun e => ?_) (fun e => ?_)
  · have e : z ∉ ns := of_decide_eq_true (in1 e)
    rw [if_pos (Bool.eq_false_iff.mpr fun h => e (hin.mp h))] at q
    refine ⟨(by show 4 ≤ sizeLine; decide), fun t nt => ?_⟩
    exact q _ t (same_new nt) nt upd_same
  have ez : z ∈ ns := by
    have e := in1 (Bool.eq_false_iff.mpr e)
    simpa using e
  clear e
  rw [if_neg (by rw [hin.mpr ez]; decide)] at q
  refine ⟨_, .inl (SqL.of hp), rfl, flat_strs, ?_⟩
  refine ite2 (fun e => ?_) (fun e => ?_)
  · have e : z ∈ zs := by
      have e : inV (.str z) (zs.map V.str) = true := e
      rw [inV_str] at e
      exact of_decide_eq_true e
    rw [if_pos e] at q
    refine ⟨(by show 4 ≤ sizeLine; decide), fun t nt => ?_⟩
    exact q _ t (same_new nt) nt upd_same
  have em : z ∉ zs := by
    have e : ¬ inV (.str z) (zs.map V.str) = true := e
    rw [inV_str] at e
    simpa using e
  clear e
  rw [if_neg em] at q
  refine ite2 (fun e => ?_) (fun e => ?_)
  · have e1 : k = 1 := of_decide_eq_true e
    rw [if_pos e1] at q
    refine ⟨(by show 1 ≤ sizeLine; decide), fun u nu => ?_⟩
    have su := same_new (o := .lst [.str z]) nu
    refine .inl ⟨_, _, upd_same, su _ _ hp, line_of (by rw [List.length_singleton, List.length_map]; omega), fun D nD => ?_⟩
    exact q _ D (su.trans (same_new nD)) (free_new nD) (by show _ = _; rw [upd_same]; rfl)
  · have e1 : ¬ k = 1 := of_decide_eq_false (Bool.eq_false_iff.mpr e)
    rw [if_neg e1] at q
    refine ⟨(by show 1 ≤ sizeLine; decide), fun u nu => ?_⟩
    have su := same_new (o := .lst [.str z]) nu
    refine .inl ⟨_, _, su _ _ hp, upd_same, line_of (by rw [List.length_singleton, List.length_map]; omega), fun D nD => ?_⟩
    exact q _ D (su.trans (same_new nD)) (free_new nD) (by show _ = _; rw [upd_same, List.map_append]; rfl)
end
section
variable {P : Program} {w : World} {K : PySem.W.Frag} {mg : Str → Option Value} {base : Heap}
variable {t_LETTERS t_LONGEST_NAME : Tok} {a_RESERVED a_BadName a_BadOrder a_ElseputError a_KeyOrder a_UnknownKey : Addr}
/-! ### an order fits a row -/
theorem drop_upd {H : Hp} {it : Addr} {o : HO} (h : H it = none) : ItX.dropH (upd H it o) it = H := by
  funext b
  unfold ItX.dropH
  by_cases e : b = it
  · simp [e, h]
  · simp [e, upd_ne e]
def sp__law_fits (K : PySem.W.Frag) : Sp := fun vs H Q _ => ∃ (a p : Addr) (zs : List Str), vs = [.ref a, .ref p] ∧ OrAt K H a zs ∧ H p = some (.lst (zs.map V.str)) ∧ zs.length ≤ 20 ∧ Nms zs ∧ zs.Nodup ∧ ∀ H' : Hp, Same H H' → Q (.bl true) H'
theorem len__law_fits {vs : List V} {H : Hp} {Q : VK} {E : XK} (h : sp__law_fits K vs H Q E) : vs.length = 2 := by
  obtain ⟨_, _, _, rfl, _⟩ := h
  rfl
theorem ok__law_fits {f : Addr} {fd : FuncData} {f__law_same : Addr} {fd__law_same : FuncData} {f_KeyOrder___contains__ : Addr} {fd_KeyOrder___contains__ : FuncData} {f_KeyOrder___iter__ : Addr} {f_KeyOrder___len__ : Addr} {fd_KeyOrder___len__ : FuncData} {f_KeyOrder___getitem__ : Addr} {fd_KeyOrder___getitem__ : FuncData} (F : Fun K "_law_fits" "_law_fits" s__law_fits f fd) (T : Gs K mg t_LETTERS t_LONGEST_NAME a_RESERVED a_BadName a_BadOrder a_ElseputError a_KeyOrder a_UnknownKey) (c__law_same : Cal P w K mg base CX0 6 "_law_same" f__law_same fd__law_same ["_law_actual", "_law_due_here"] (sp__law_same K)) (c_KeyOrder___contains__ : CalIn P w K mg base CX0 1 a_KeyOrder f_KeyOrder___contains__ fd_KeyOrder___contains__ ["self", "name"] (sp_KeyOrder___contains__ K)) (c_KeyOrder___iter__ : CalIt P w K mg base CX0 1 a_KeyOrder f_KeyOrder___iter__ (sp_KeyOrder___iter__ K)) (c_KeyOrder___len__ : CalL P w K mg base CX0 1 a_KeyOrder f_KeyOrder___len__ fd_KeyOrder___len__ ["self"] (sp_KeyOrder___len__ K)) (c_KeyOrder___getitem__ : CalSub P w K mg base (L2.CX P w) 3 a_KeyOrder f_KeyOrder___getitem__ fd_KeyOrder___getitem__ ["self", "name"] (sp_KeyOrder___getitem__ K)) : FnOk P w K mg base CX0 8 f fd ["_law_order", "_law_row"] (sp__law_fits K) := by
  refine F.ok sc__law_fits (fun vs H Q E h => len__law_fits h) (fun cdv A outer s H vs Q E hr h => ?_)
  obtain ⟨a, p, zs, rfl, hA, hp, lz, hn, hd, q⟩ := h
  obtain ⟨C, dx, t, hC, ha, ht⟩ := id hA
  cases hC.symm.trans T.n_KeyOrder
  refine ⟨_, (pss_cons (ps_if (PW.pt (pw_or (pt_not (pt_t K (pe_callB (isiK K) (by rfl) T.z_isinstance (by decide +kernel) (pa_cons (v_ 0) (pa_cons (pe_glob (v := .ref a_KeyOrder) rfl T.g_KeyOrder rfl) pa_nil))))) (pw_or1 (pt_c (neK K hr.units) (pe_callB (call_lenO c_KeyOrder___len__.le c_KeyOrder___len__.G (hr.mono (by first | decide | omega)) c_KeyOrder___len__.b) (by rfl) T.z_len PySem.boot_len (pa_cons (v_ 0) pa_nil)) (pe_callB (lenK K) (by rfl) T.z_len PySem.boot_len (pa_cons (v_ 1) pa_nil)))))) (pss_one (ps_ret pe_bl)) pss_nil) (pss_cons (ps_if (PW.pt (pw_or (pt_not (pt_t K (pe_call c__law_same.G (hr.mono (by first | decide | omega)) rfl c__law_same.m c__law_same.kp c__law_same.b .nil pass0 (pa_cons (e_f K (v_ 0)) (pa_cons (pe_callTy (tupleK K) (by rfl) T.z_tuple (by decide +kernel) (pa_cons (v_ 1) pa_nil)) pa_nil))))) (pw_or1 (pt_not (pt_t K (pe_call c__law_same.G (hr.mono (by first | decide | omega)) rfl c__law_same.m c__law_same.kp c__law_same.b .nil pass0 (pa_cons (pe_lc (own := [("_law_name", 3)]) (g := gName 3) (by rfl) sc__law_fits.nd (pi_ownT c_KeyOrder___iter__.oi c_KeyOrder___iter__.F (hr.mono (by first | decide | omega)) pass0 (v_ 0)) (blkOk_by (N := ["_law_order", "_law_row", "_law_k", "_law_name"]) (sc := defScope s__law_fits) (by decide +kernel)) (fun _ _ _ _ _ => pg_name (i := 3) sc__law_fits.nd rfl (Or.inl rfl)) (fun _ _ _ _ _ => pts_nil) (fun _ _ _ _ _ => (v_ 3))) (pa_cons (v_ 1) pa_nil)))))))) (pss_one (ps_ret pe_bl)) pss_nil) (pss_one (ps_ret (pe_c (eqK K hr.units) (pe_callB (lenK K) (by rfl) T.z_len PySem.boot_len (pa_cons (pe_lc (own := [("_law_k", 2)]) (g := gName 2) (by rfl) sc__law_fits.nd (pi_range1 rfl T.z_range (pa_cons (pe_callB (lenK K) (by rfl) T.z_len PySem.boot_len (pa_cons (v_ 1) pa_nil)) pa_nil)) (blkOk_by (N := ["_law_order", "_law_row", "_law_k", "_law_name"]) (sc := defScope s__law_fits) (by decide +kernel)) (fun _ _ _ _ _ => pg_name (i := 2) sc__law_fits.nd rfl (Or.inl rfl)) (fun _ _ _ _ _ => pts_one (PW.pt (pw_or (pt_c (op_notInO c_KeyOrder___contains__.ic c_KeyOrder___contains__.G (hr.mono (by first | decide | omega)) c_KeyOrder___contains__.b pass0) (e_x K (v_ 1) (v_ 2)) (v_ 0)) (pw_or1 (pt_not (pt_t K (pe_call c__law_same.G (hr.mono (by first | decide | omega)) rfl c__law_same.m c__law_same.kp c__law_same.b .nil pass0 (pa_cons (pe_itO c_KeyOrder___getitem__.su c_KeyOrder___getitem__.G (hr.mono (by first | decide | omega)) c_KeyOrder___getitem__.b passL (v_ 0) (e_x K (v_ 1) (v_ 2))) (pa_cons (v_ 2) pa_nil))))))))) (fun _ _ _ _ _ => (v_ 2))) pa_nil)) pe_int))))), ?_⟩
  refine ⟨_, _, _, _, true, rfl, .own _, ty_ins ha T.cl_KeyOrder T.is_KeyOrder, kit_self, ?_⟩
  refine ite2 (fun e => nomatch e) (fun _ => ?_)
  refine ⟨a, dx, _, rfl, ha, a, zs, rfl, hA, _, rfl, by omega, by omega, ?_⟩
  refine .inl ⟨_, .inl (SqL.of hp), ?_⟩
  refine ite2 (fun e => ?_) (fun _ => ?_)
  · have e : (!decide ((zs.length : Int) = ((zs.map V.str).length : Int))) = true := e
    rw [List.length_map] at e
    simp at e
  refine ⟨a, a_KeyOrder, dx, _, _, rfl, ha, T.cl_KeyOrder, T.na_KeyOrder_names, rfl, p, _, rfl, .inl ⟨SqL.of hp, fun l nl => ?_⟩⟩
  have s1 := same_new (o := .tup (zs.map V.str)) nl
  refine ⟨_, _, rfl, same_strsT (s1 _ _ ht) upd_same (by omega), ?_⟩
  generalize upd H l (.tup (zs.map V.str)) = H1 at s1 ⊢
  refine ite2 (fun e => nomatch e) (fun _ => ?_)
  refine ⟨a, dx, _, rfl, s1 _ _ ha, fun m hm => ⟨a, zs, rfl, hA.same s1, fun t2 it ht2 nit hit => ⟨t2, it, rfl, upd_same, Nat.le_trans hm hit, ?_⟩⟩⟩
  rw [drop_upd nit]
  intro D nD
  refine lc_it (walk_tup (xs := zs.map V.str)) (fun j H2 => Same H1 H2 ∧ H2 D = some (.lst ((zs.take j).map V.str))) ⟨same_new nD, upd_same⟩ (fun _ _ _ h => SqT.of (h.1 _ _ ht2)) ?_ ?_
  · rintro j v H3 H4 hj ⟨s3, hD⟩ ⟨rfl, hv⟩
    have hv : (zs.map V.str)[j]? = some v := hv
    rw [List.getElem?_map] at hv
    obtain ⟨u, eu, rfl⟩ := Option.map_eq_some_iff.mp hv
    refine ⟨rfl, ?_⟩
    refine ⟨_, hD, line_lt (by rw [List.length_map, List.length_take]; omega), fun b o hb => ?_, ?_⟩
    · rw [upd_ne (ne_of_none hb nD)]
      exact s3 _ _ hb
    · rw [upd_same, take_snoc eu, List.map_append]
      rfl
  rintro H2 ⟨s2, hD⟩
  rw [List.length_map, List.take_length] at hD
  have s12 := s1.trans s2
  refine ⟨_, _, rfl, same_strsL hD (s12 _ _ hp) (by omega), ?_⟩
  clear s1 s2 hD nD nl ht2 nit hit hm
  refine ite2 (fun e => nomatch e) (fun _ => ?_)
  have hp2 := s12 _ _ hp
  have hA2 := hA.same s12
  have ha2 := s12 _ _ ha
  refine .inl ⟨_, .inl (SqL.of hp2), _, rfl, by omega, by rw [List.length_map]; omega, fun D nD => ?_⟩
  rw [List.length_map]
  refine lc_it (walk_range (lo := 0) (n := zs.length)) (fun j H3 => Same H2 H3 ∧ H3 D = some (.lst [])) ⟨same_new nD, upd_same⟩ (fun _ _ _ _ => True.intro) ?_ ?_
  · rintro j v H3 H4 hj ⟨s3, hD⟩ ⟨rfl, rfl⟩
    obtain ⟨z, ez⟩ : ∃ z, zs[j]? = some z := ⟨_, List.getElem?_eq_getElem hj⟩
    have hz := List.mem_of_getElem? ez
    have ei : atI (zs.map V.str) (0 + (j : Int)) = some (.str z) := by
      rw [show (0 : Int) + j = ((j : Nat) : Int) by omega]
      exact atI_nat (by rw [List.getElem?_map, ez]; rfl)
    refine ⟨rfl, ?_⟩
    refine ⟨_, .inl (SqL.of (s3 _ _ hp2)), .str z, ei, a, dx, _, rfl, s3 _ _ ha2, a, z, zs, rfl, hA2.same s3, _, rfl, ?_⟩
    rw [decide_eq_true hz]
    refine ⟨_, .inl (SqL.of (s3 _ _ hp2)), .str z, ei, a, dx, _, rfl, s3 _ _ ha2, a, z, zs, rfl, hA2.same s3, lz, (hn.asc z hz).1, (hn.asc z hz).2, fun i H6 e1 e2 s6 => ?_, fun nz => absurd hz nz⟩
    have ij : i = j := by
      by_cases h1 : j < i
      · exact absurd ez (e2 j h1)
      · have hi := (List.getElem?_eq_some_iff.mp e1).1
        exact (List.getElem?_inj hi hd).mp (e1.trans ez.symm)
    subst ij
    refine ⟨_, _, rfl, ?_, ?_⟩
    · show SameV H6 4 (V.int (i : Int)) (V.int (0 + (i : Int)))
      rw [Int.zero_add]
      exact same_int _
    · exact ⟨s3.trans s6, s6 _ _ hD⟩
  · rintro H3 ⟨s3, hD⟩
    refine .inl ⟨_, .inl (SqL.of hD), ?_⟩
    exact q _ (s12.trans s3)
end
section
variable {P : Program} {w : World} {K : PySem.W.Frag} {mg : Str → Option Value} {base : Heap}
variable {t_LETTERS t_LONGEST_NAME : Tok} {a_RESERVED a_BadName a_BadOrder a_ElseputError a_KeyOrder a_UnknownKey : Addr}
theorem name_ok {z : Str} (h : isName z = true) : PyData.strOk z = true := by
  show z.cps.all _ = true
  rw [← Array.all_toList]
  refine List.all_eq_true.mpr fun c hc => ?_
  have hm := (isName_mem h).1 c hc
  have all : letters.cps.toList.all (fun c => decide (c < 0x110000)) = true := by decide +kernel
  exact List.all_eq_true.mp all c hm
theorem strs_lay : ∀ zs : List Str, Nms zs → PyData.canLayAll0 (zs.map PyData.str) = true
  | [], _ => rfl
  | z :: r, h => by
    rw [List.map_cons]
    simp only [PyData.canLayAll0, PyData.canLay0, strs_lay r (fun y hy => h y (List.mem_cons_of_mem _ hy)), name_ok (h z List.mem_cons_self).1, Bool.and_self]
theorem strs_depth : ∀ zs : List Str, PyData.depthAll (zs.map PyData.str) ≤ 1
  | [] => by simp only [List.map_nil, PyData.depthAll]; omega
  | _ :: r => by
    have := strs_depth r
    simp only [List.map_cons, PyData.depthAll, PyData.depth]
    omega
theorem strs_shaped {zs : List Str} (h : Nms zs) : SeqAt.shaped (.list (zs.map PyData.str)) = true := by
  have h1 := strs_depth zs
  have h2 : PyData.depth (.list (zs.map PyData.str)) ≤ 64 := by
    simp only [PyData.depth]
    omega
  show ((PyData.list (zs.map PyData.str)).canLay0 && decide ((PyData.list (zs.map PyData.str)).depth ≤ 64)) = true
  rw [Bool.and_eq_true]
  exact ⟨strs_lay zs h, decide_eq_true h2⟩
theorem strs_dps {K : PySem.W.Frag} {H : Hp} : ∀ zs : List Str, DpAll K H (zs.map V.str) (zs.map PyData.str)
  | [] => .nil
  | z :: r => .cons (.str z) (strs_dps r)
theorem strs_dp {K : PySem.W.Frag} {H : Hp} {a : Addr} {zs : List Str} (h : H a = some (.lst (zs.map V.str))) : Dp K H (.ref a) (.list (zs.map PyData.str)) := .lst (SqL.of h) (strs_dps zs)
theorem strs_eqv : ∀ zs : List Str, PyData.eqvAll (zs.map PyData.str) (zs.map PyData.str) = true
  | [] => by simp only [List.map_nil, PyData.eqvAll]
  | z :: r => by simp only [List.map_cons, PyData.eqvAll, PyData.eqv, beq_self_eq_true, strs_eqv r, Bool.and_self]
/-- an order is no list -/
theorem OrAt.bta {K : PySem.W.Frag} {H H' : Hp} {a b : Addr} {zs ws : List Str} (h : OrAt K H a zs) (hn : b ≠ a) (s : Bt a H H') (hb : OrAt K H b ws) : OrAt K H' b ws := by
  obtain ⟨C, dx, t, h1, h2, h3⟩ := hb
  obtain ⟨C', dx', t', h1', h2', h3'⟩ := h
  exact ⟨C, dx, t, h1, s _ _ hn h2, s _ _ (ne_of h3 h2' (by intro e; cases e)) h3⟩
def spLaw (K : PySem.W.Frag) : Sp := fun vs H Q _ => ∃ (a : Addr) (ns : List Int), vs = [.ref a] ∧ SqL K H a (ns.map V.int) ∧ ns.length ≤ 63 ∧ ∀ H', Q (.bl true) H'
abbrev sp_law := spLaw
theorem len_law {vs : List V} {H : Hp} {Q : VK} {E : XK} (h : sp_law K vs H Q E) : vs.length = 1 := by
  obtain ⟨_, _, rfl, _⟩ := h
  rfl
/-- what stands between two deeds -/
structure Wl (K : PySem.W.Frag) (H : Hp) (st scr L N : Addr) (zs : List Str) (a R : Addr) (xs : List Str) (ps : List V) : Prop where
  dr : DrAt H st scr
  hN : H N = some (.lst (zs.map V.str))
  hL : H L = some (.lst ps)
  hR : H R = some (.lst (xs.map V.str))
  hO : OrAt K H a xs
  Rs : R ≠ st
  RL : R ≠ L
  xn : Nms xs
  xd : xs.Nodup
  left : ∀ p ∈ ps, ∃ (e b c : Addr) (ws : List Str), p = .ref e ∧ H e = some (.tup [.ref b, .ref c]) ∧ OrAt K H b ws ∧ b ≠ a ∧ H c = some (.lst (ws.map V.str)) ∧ c ≠ st ∧ c ≠ L ∧ ws.length ≤ 20 ∧ Nms ws ∧ ws.Nodup
theorem Wl.bt {K : PySem.W.Frag} {H H' : Hp} {st scr L N a R : Addr} {zs xs : List Str} {ps : List V} (h : Wl K H st scr L N zs a R xs ps) (Ls : L ≠ st) (Ns : N ≠ st) (s : Bt st H H') (hd : DrAt H' st scr) : Wl K H' st scr L N zs a R xs ps := by
  obtain ⟨dr, hN, hL, hR, hO, Rs, RL, xn, xd, left⟩ := h
  obtain ⟨l, hl⟩ := dr.lst
  refine ⟨hd, s _ _ Ns hN, s _ _ Ls hL, s _ _ Rs hR, hO.bt ⟨l, hl⟩ s, Rs, RL, xn, xd, fun p hp => ?_⟩
  obtain ⟨e, b, c, ws, rfl, he, hb, ba, hc, cs, cL, wl, wn, wd⟩ := left p hp
  exact ⟨e, b, c, ws, rfl, s _ _ (ne_of he hl (by intro e; cases e)) he, hb.bt ⟨l, hl⟩ s, ba, s _ _ cs hc, cs, cL, wl, wn, wd⟩
theorem Wl.new {K : PySem.W.Frag} {H H' : Hp} {st scr L N a R : Addr} {zs xs : List Str} {ps : List V} (h : Wl K H st scr L N zs a R xs ps) (Ls : L ≠ st) (Ns : N ≠ st) (s : Same H H') : Wl K H' st scr L N zs a R xs ps := h.bt Ls Ns (Bt.same s) (h.dr.new s)
theorem Wl.not_a {K : PySem.W.Frag} {H : Hp} {a p : Addr} {xs : List Str} (hO : OrAt K H a xs) (hp : ∃ l, H p = some (.lst l)) : p ≠ a := by
  obtain ⟨l, hl⟩ := hp
  obtain ⟨C, dx, t, h1, h2, h3⟩ := hO
  exact ne_of hl h2 (by intro e; cases e)
/-- the deed that changes the order itself; D: the row that is due then -/
theorem Wl.deed {K : PySem.W.Frag} {H H' : Hp} {st scr L N a R D : Addr} {zs xs ts : List Str} {ps : List V} (h : Wl K H st scr L N zs a R xs ps) (s : Bt a H H') (hO' : OrAt K H' a ts) (hD : H D = some (.lst (ts.map V.str))) (Ds : D ≠ st) (DL : D ≠ L) (tn : Nms ts) (td : ts.Nodup) : Wl K H' st scr L N zs a D ts ps := by
  obtain ⟨dr, hN, hL, hR, hO, Rs, RL, xn, xd, left⟩ := h
  have na : ∀ {p : Addr} {l : List V}, H p = some (.lst l) → p ≠ a := fun h => Wl.not_a hO ⟨_, h⟩
  refine ⟨?_, s _ _ (na hN) hN, s _ _ (na hL) hL, s _ _ (na hD) hD, hO', Ds, DL, tn, td, fun p hp => ?_⟩
  · obtain ⟨ns, i, v, m, c, e1, e2, h3⟩ := dr
    exact ⟨ns, i, v, m, c, s _ _ (na e1) e1, s _ _ (na e2) e2, h3⟩
  · obtain ⟨e, b, c, ws, rfl, he, hb, ba, hc, cs, cL, wl, wn, wd⟩ := left p hp
    have ea : e ≠ a := by
      obtain ⟨C, dx, t, h1, h2, h3⟩ := hO
      exact ne_of he h2 (by intro e; cases e)
    exact ⟨e, b, c, ws, rfl, s _ _ ea he, hO.bta ba s hb, ba, s _ _ (na hc) hc, cs, cL, wl, wn, wd⟩
/-- going on with a new order -/
theorem Wl.leave {K : PySem.W.Frag} {H H' : Hp} {st scr L N a R b D e : Addr} {zs xs ts : List Str} {ps : List V} (h : Wl K H st scr L N zs a R xs ps) (Ls : L ≠ st) (Lc : L ≠ scr) (NL : N ≠ L) (xl : xs.length ≤ 20) (hb : OrAt K H b ts) (ba : b ≠ a) (bl : ∀ p ∈ ps, ∀ (e c d : Addr), p = .ref e → H e = some (.tup [.ref c, .ref d]) → c ≠ b) (hD : H D = some (.lst (ts.map V.str))) (Ds : D ≠ st) (DL : D ≠ L) (tn : Nms ts) (td : ts.Nodup)
    (he : H e = none) (e' : H' = upd (upd H e (.tup [.ref a, .ref R])) L (.lst (ps ++ [.ref e]))) : Wl K H' st scr L N zs b D ts (ps ++ [.ref e]) := by
  obtain ⟨dr, hN, hL, hR, hO, Rs, RL, xn, xd, left⟩ := h
  have s1 : Bt L H H' := fun c o nc hc => by
    rw [e', upd_ne nc, upd_ne (ne_of_none hc he)]
    exact hc
  have eL : e ≠ L := (ne_of_none hL he).symm
  have hl : ∃ l, H L = some (.lst l) := ⟨_, hL⟩
  refine ⟨?_, s1 _ _ NL hN, by rw [e', upd_same], s1 _ _ DL hD, hb.bt hl s1, Ds, DL, tn, td, fun p hp => ?_⟩
  · rw [e']
    exact (dr.new (same_new he)).at Ls Lc
  · rcases List.mem_append.mp hp with hp | hp
    · obtain ⟨e2, b2, c, ws, rfl, he2, hb2, ba2, hc, cs, cL, wl, wn, wd⟩ := left p hp
      exact ⟨e2, b2, c, ws, rfl, s1 _ _ (ne_of he2 hL (by intro e; cases e)) he2, hb2.bt hl s1, bl _ hp e2 b2 c rfl he2, s1 _ _ cL hc, cs, cL, wl, wn, wd⟩
    · rw [List.mem_singleton.mp hp]
      exact ⟨e, a, R, xs, rfl, by rw [e', upd_ne eL, upd_same], hO.bt hl s1, ba.symm, s1 _ _ RL hR, Rs, RL, xl, xn, xd⟩
theorem outD_order {k : Int} {z : Str} {xs ts : List Str} (h : outD k z xs = .order ts) (hn : Nms xs) (hd : xs.Nodup) : Nms ts ∧ ts.Nodup ∧ ts.length ≤ xs.length + 1 := by
  unfold outD at h
  have zl : isName z = true → isName z = true ∧ z.length ≤ 12 := fun e => ⟨e, (isName_mem e).2.2.1⟩
  split at h
  · injection h with h
    subst h
    exact ⟨fun y hy => hn y (List.mem_reverse.mp hy), (List.reverse_perm xs).nodup_iff.mpr hd, by rw [List.length_reverse]; omega⟩
  split at h
  · split at h
    · injection h with h
      subst h
      have := List.length_filter_le (fun y => decide (y ≠ z)) xs
      exact ⟨fun y hy => hn y (List.mem_filter.mp hy).1, hd.sublist List.filter_sublist, by omega⟩
    · cases h
  split at h
  · cases h
  rename_i hz
  have hz : isName z = true := by simpa using hz
  split at h
  · cases h
  rename_i hm
  split at h
  · injection h with h
    subst h
    exact ⟨fun y hy => by
      rcases List.mem_cons.mp hy with e | e
      · rw [e]
        exact zl hz
      · exact hn y e, List.nodup_cons.mpr ⟨hm, hd⟩, by rw [List.length_cons]; omega⟩
  · injection h with h
    subst h
    exact ⟨fun y hy => by
      rcases List.mem_append.mp hy with e | e
      · exact hn y e
      · rw [List.mem_singleton.mp e]
        exact zl hz, (nodup_end hd).mpr hm, by rw [List.length_append, List.length_singleton]; omega⟩
theorem outD_ref {k : Int} {z : Str} {xs : List Str} {a b c : Bool} {v : V} (h : outD k z xs = .ref a b c v) : v = .non ∨ v = .str z := by
  unfold outD at h
  split at h
  · cases h
  split at h
  · split at h
    · cases h
    · injection h with _ _ _ h
      exact .inr h.symm
  split at h
  · injection h with _ _ _ h
    exact .inr h.symm
  split at h
  · injection h with _ _ _ h
    exact .inl h.symm
  split at h <;> cases h
theorem same_ref {H : Hp} {t u : Addr} {a b c : Bool} {v : V} (h1 : RefT H t a b c v) (h2 : RefT H u a b c v) (hv : v = .non ∨ ∃ z, v = .str z) : SameV H 4 (.ref t) (.ref u) := by
  unfold RefT at h1 h2
  refine same_tupN h1 h2 rfl (by show 4 ≤ 1000; decide) fun i x y hx hy => ?_
  rw [hx] at hy
  cases hy
  match i, hx with
  | 0, hx => cases hx; exact same_bl _
  | 1, hx => cases hx; exact same_bl _
  | 2, hx => cases hx; exact same_bl _
  | 3, hx =>
    cases hx
    rcases hv with rfl | ⟨z, rfl⟩
    · exact same_non
    · exact same_str z
theorem ok_law {f : Addr} {fd : FuncData} {f__law_state : Addr} {fd__law_state : FuncData} {f__law_names : Addr} {fd__law_names : FuncData} {f__law_mixed : Addr} {fd__law_mixed : FuncData} {f__law_draw : Addr} {fd__law_draw : FuncData} {f__law_pick : Addr} {fd__law_pick : FuncData} {f__law_due : Addr} {fd__law_due : FuncData} {f__law_deed : Addr} {fd__law_deed : FuncData} {f__law_bad_name : Addr} {fd__law_bad_name : FuncData} {f__law_same : Addr} {fd__law_same : FuncData} {f__law_fits : Addr} {fd__law_fits : FuncData} {f_KeyOrder___init__ : Addr} {fd_KeyOrder___init__ : FuncData} (F : Fun K "law" "law" s_law f fd) (T : Gs K mg t_LETTERS t_LONGEST_NAME a_RESERVED a_BadName a_BadOrder a_ElseputError a_KeyOrder a_UnknownKey) (c__law_state : Cal P w K mg base CX0 1 "_law_state" f__law_state fd__law_state ["_law_script"] (sp__law_state K)) (c__law_names : Cal P w K mg base CX0 2 "_law_names" f__law_names fd__law_names ["_law_state_here", "_law_many"] (sp__law_names K)) (c__law_mixed : Cal P w K mg base CX0 2 "_law_mixed" f__law_mixed fd__law_mixed ["_law_state_here", "_law_row"] (sp__law_mixed K)) (c__law_draw : Cal P w K mg base CX0 1 "_law_draw" f__law_draw fd__law_draw ["_law_state_here", "_law_many"] (sp__law_draw K)) (c__law_pick : Cal P w K mg base CX0 2 "_law_pick" f__law_pick fd__law_pick ["_law_state_here", "_law_row"] (sp__law_pick K)) (c__law_due : Cal P w K mg base CX0 1 "_law_due" f__law_due fd__law_due ["_law_row", "_law_kind", "_law_name", "_law_names_here"] (sp__law_due K)) (c__law_deed : Cal P w K mg base CX0 8 "_law_deed" f__law_deed fd__law_deed ["_law_order", "_law_kind", "_law_name"] (sp__law_deed K)) (c__law_bad_name : Cal P w K mg base CX0 3 "_law_bad_name" f__law_bad_name fd__law_bad_name ["_law_state_here", "_law_good"] (sp__law_bad_name K)) (c__law_same : Cal P w K mg base CX0 6 "_law_same" f__law_same fd__law_same ["_law_actual", "_law_due_here"] (sp__law_same K)) (c__law_fits : Cal P w K mg base CX0 8 "_law_fits" f__law_fits fd__law_fits ["_law_order", "_law_row"] (sp__law_fits K)) (c_KeyOrder___init__ : CalI P w K mg base (L2.CX P w) 4 "KeyOrder" a_KeyOrder f_KeyOrder___init__ fd_KeyOrder___init__ ["self", "names"] (sp_KeyOrder___init__ K)) : FnOk P w K mg base CX0 12 f fd ["_law_script"] (sp_law K) := by
  refine F.ok sc_law (fun vs H Q E h => len_law h) (fun cdv A outer s H vs Q E hr h => ?_)
  obtain ⟨s0, ns0, rfl, hS, hl, q⟩ := h
  refine ⟨_, (pss_cons (ps_set (i := 1) sc_law.nd rfl (.inl rfl) (pe_call c__law_state.G (hr.mono (by first | decide | omega)) rfl c__law_state.m c__law_state.kp c__law_state.b .nil pass0 (pa_cons (v_ 0) pa_nil))) (pss_cons (ps_set (i := 2) sc_law.nd rfl (.inl rfl) (pe_call c__law_names.G (hr.mono (by first | decide | omega)) rfl c__law_names.m c__law_names.kp c__law_names.b .nil pass0 (pa_cons (v_ 1) (pa_cons pe_int pa_nil)))) (pss_cons (ps_set (i := 3) sc_law.nd rfl (.inl rfl) (pe_slice (slK K) (pe_call c__law_mixed.G (hr.mono (by first | decide | omega)) rfl c__law_mixed.m c__law_mixed.kp c__law_mixed.b .nil pass0 (pa_cons (v_ 1) (pa_cons (v_ 2) pa_nil))) po_none (po_some (pe_op op_subM pe_int (pe_call c__law_draw.G (hr.mono (by first | decide | omega)) rfl c__law_draw.m c__law_draw.kp c__law_draw.b .nil pass0 (pa_cons (v_ 1) (pa_cons pe_int pa_nil))))))) (pss_cons (ps_set (i := 4) sc_law.nd rfl (.inl rfl) (pe_make c_KeyOrder___init__.mkc c_KeyOrder___init__.G (hr.mono (by first | decide | omega)) rfl c_KeyOrder___init__.m c_KeyOrder___init__.b .nil passL (pa_cons (pe_callTy (listK K) (by rfl) T.z_list (by decide +kernel) (pa_cons (v_ 3) pa_nil)) pa_nil))) (pss_cons (ps_set (i := 5) sc_law.nd rfl (.inl rfl) (v_ 4)) (pss_cons (ps_set (i := 6) sc_law.nd rfl (.inl rfl) (pe_lst pa_nil)) (pss_cons (ps_for PassesOwn.never rfl (pi_range1 rfl T.z_range (pa_cons (pe_op op_subM pe_int (pe_call c__law_draw.G (hr.mono (by first | decide | omega)) rfl c__law_draw.m c__law_draw.kp c__law_draw.b .nil pass0 (pa_cons (v_ 1) (pa_cons pe_int pa_nil)))) pa_nil)) (pg_name (i := 7) sc_law.nd rfl (.inl rfl)) (pss_cons (ps_set (i := 8) sc_law.nd rfl (.inl rfl) (pe_call c__law_draw.G (hr.mono (by first | decide | omega)) rfl c__law_draw.m c__law_draw.kp c__law_draw.b .nil pass0 (pa_cons (v_ 1) (pa_cons pe_int pa_nil)))) (pss_cons (ps_set (i := 9) sc_law.nd rfl (.inl rfl) (pe_call c__law_pick.G (hr.mono (by first | decide | omega)) rfl c__law_pick.m c__law_pick.kp c__law_pick.b .nil pass0 (pa_cons (v_ 1) (pa_cons (v_ 2) pa_nil)))) (Evl.pss_cut (ps_if (pt_c (eqK K hr.units) (pe_call c__law_draw.G (hr.mono (by first | decide | omega)) rfl c__law_draw.m c__law_draw.kp c__law_draw.b .nil pass0 (pa_cons (v_ 1) (pa_cons pe_int pa_nil))) pe_int) (pss_one (ps_set (i := 9) sc_law.nd rfl (.inl rfl) (pe_call c__law_bad_name.G (hr.mono (by first | decide | omega)) rfl c__law_bad_name.m c__law_bad_name.kp c__law_bad_name.b .nil pass0 (pa_cons (v_ 1) (pa_cons (v_ 9) pa_nil))))) pss_nil) (pss_cons (ps_set (i := 10) sc_law.nd rfl (.inl rfl) (pe_call c__law_due.G (hr.mono (by first | decide | omega)) rfl c__law_due.m c__law_due.kp c__law_due.b .nil pass0 (pa_cons (v_ 3) (pa_cons (v_ 8) (pa_cons (v_ 9) (pa_cons (v_ 2) pa_nil)))))) (pss_cons (ps_set (i := 11) sc_law.nd rfl (.inl rfl) (pe_call c__law_deed.G (hr.mono (by first | decide | omega)) rfl c__law_deed.m c__law_deed.kp c__law_deed.b .nil pass0 (pa_cons (v_ 4) (pa_cons (v_ 8) (pa_cons (v_ 9) pa_nil))))) (Evl.pss_cut (ps_if (pt_t K (pe_callB (isiK K) (by rfl) T.z_isinstance (by decide +kernel) (pa_cons (v_ 10) (pa_cons (pe_bltn (v := .ty "tuple") (u := .type "tuple") (by rfl) T.z_tuple (by decide +kernel) rfl) pa_nil)))) (pss_one (ps_if (pt_not (pt_t K (pe_call c__law_same.G (hr.mono (by first | decide | omega)) rfl c__law_same.m c__law_same.kp c__law_same.b .nil pass0 (pa_cons (v_ 11) (pa_cons (v_ 10) pa_nil))))) (pss_one (ps_ret pe_bl)) pss_nil)) (pss_cons (ps_if (PW.pt (pw_or (pt_not (pt_t K (pe_callB (isiK K) (by rfl) T.z_isinstance (by decide +kernel) (pa_cons (v_ 11) (pa_cons (pe_bltn (v := .ty "list") (u := .type "list") (by rfl) T.z_list (by decide +kernel) rfl) pa_nil))))) (pw_or1 (pt_not (pt_t K (pe_call c__law_fits.G (hr.mono (by first | decide | omega)) rfl c__law_fits.m c__law_fits.kp c__law_fits.b .nil pass0 (pa_cons (e_x K (v_ 11) pe_int) (pa_cons (v_ 10) pa_nil)))))))) (pss_one (ps_ret pe_bl)) pss_nil) (pss_one (ps_if (pt_c (eqK K hr.units) (v_ 8) pe_int) (pss_one (ps_set (i := 3) sc_law.nd rfl (.inl rfl) (v_ 10))) pss_nil)))) (pss_cons (ps_if (PW.pt (pw_or (pt_not (pt_t K (pe_call c__law_fits.G (hr.mono (by first | decide | omega)) rfl c__law_fits.m c__law_fits.kp c__law_fits.b .nil pass0 (pa_cons (v_ 4) (pa_cons (v_ 3) pa_nil))))) (pw_or1 (pt_not (pt_t K (pe_call c__law_fits.G (hr.mono (by first | decide | omega)) rfl c__law_fits.m c__law_fits.kp c__law_fits.b .nil pass0 (pa_cons (v_ 5) (pa_cons (v_ 3) pa_nil)))))))) (pss_one (ps_ret pe_bl)) pss_nil) (pss_one (ps_if (PW.pt (pw_and (pt_t K (pe_callB (isiK K) (by rfl) T.z_isinstance (by decide +kernel) (pa_cons (v_ 10) (pa_cons (pe_bltn (v := .ty "list") (u := .type "list") (by rfl) T.z_list (by decide +kernel) rfl) pa_nil)))) (pw_and (pt_c (neK K hr.units) (v_ 10) (v_ 3)) (pw_and1 (pt_c (eqK K hr.units) (pe_call c__law_draw.G (hr.mono (by first | decide | omega)) rfl c__law_draw.m c__law_draw.kp c__law_draw.b .nil pass0 (pa_cons (v_ 1) (pa_cons pe_int pa_nil))) pe_int))))) (pss_cons (ps_expr (pe_bm PySem.F.plainAttrs_list PySem.F.slot_list_append PySem.F.type_list_append mt_append (v_ 6) (pa_cons (pe_tup (pa_cons (v_ 4) (pa_cons (v_ 3) pa_nil))) pa_nil))) (pss_cons (ps_set (i := 4) sc_law.nd rfl (.inl rfl) (e_x K (v_ 11) pe_int)) (pss_cons (ps_set (i := 5) sc_law.nd rfl (.inl rfl) (v_ 4)) (pss_one (ps_set (i := 3) sc_law.nd rfl (.inl rfl) (v_ 10)))))) pss_nil)))))))))) (pss_one (ps_ret (pe_c (eqK K hr.units) (pe_callB (lenK K) (by rfl) T.z_len PySem.boot_len (pa_cons (pe_lc (own := [("_law_one", 12)]) (g := gName 12) (by rfl) sc_law.nd (pi_list (v_ 6)) (blkOk_by (N := ["_law_script", "_law_state_here", "_law_names_here", "_law_row", "_law_order", "_law_alias", "_law_left", "_law_k", "_law_kind", "_law_name", "_law_due_here", "_law_told", "_law_one"]) (sc := defScope s_law) (by decide +kernel)) (fun _ _ _ _ _ => pg_name (i := 12) sc_law.nd rfl (Or.inl rfl)) (fun _ _ _ _ _ => pts_one (pt_not (pt_t K (pe_call c__law_fits.G (hr.mono (by first | decide | omega)) rfl c__law_fits.m c__law_fits.kp c__law_fits.b .nil pass0 (pa_cons (e_x K (v_ 12) pe_int) (pa_cons (e_x K (v_ 12) pe_int) pa_nil)))))) (fun _ _ _ _ _ => (v_ 12))) pa_nil)) pe_int)))))))))), ?_⟩
  refine ⟨s0, ns0, rfl, hS, hl, fun H1 st scr sm fs fc hd => ?_⟩
  refine ⟨st, scr, 7, rfl, hd, by decide, fun H2 N zs b2 hd2 nN hN zl zn znd => ?_⟩
  have Ns : N ≠ st := hd.ne_new nN
  clear b2 hd sm
  refine ⟨st, scr, N, _, rfl, hd2, hN, Ns, by rw [List.length_map]; omega, fun H3 M ys b3 hd3 nM hM hperm => ?_⟩
  obtain ⟨ws, rfl, hws⟩ := strs_of (xs := ys) (zs := zs) fun x hx => hperm.mem_iff.mp hx
  have wnd : ws.Nodup := nodup_of_strs (hperm.nodup_iff.mpr (nodup_strs znd))
  have hN3 := b3 _ _ Ns hN
  have Ms : M ≠ st := hd2.ne_new nM
  clear b3 hd2 hN nN nM hperm
  refine ⟨st, scr, _, rfl, hd3, by decide, many_small (by decide) (by decide), fun r l r0 r1 hd4 => ?_⟩
  have hN4 : (upd H3 st (.lst l)) N = some (.lst (zs.map V.str)) := by rw [upd_ne Ns]; exact hN3
  have hM4 : (upd H3 st (.lst l)) M = some (.lst (ws.map V.str)) := by rw [upd_ne Ms]; exact hM
  generalize upd H3 st (.lst l) = H4 at hN4 hM4 hd4 ⊢
  clear hN3 hM hd3
  refine ⟨4 - r, rfl, .inl ⟨_, SqL.of hM4, fun R nR => ?_⟩⟩
  have eR : cutV (ws.map V.str) none (some (4 - r)) = (ws.take (4 - r).toNat).map V.str := by rw [cutV_take _ (by omega), List.map_take]
  rw [eR]
  have xl : (ws.take (4 - r).toNat).length ≤ 4 := by rw [List.length_take]; omega
  have xn : Nms (ws.take (4 - r).toNat) := fun z hz => zn z (hws z (List.mem_of_mem_take hz))
  have xnd : (ws.take (4 - r).toNat).Nodup := wnd.sublist (List.take_sublist _ _)
  generalize ws.take (4 - r).toNat = xs at xl xn xnd ⊢
  have Rs : R ≠ st := hd4.ne_new nR
  have s5 := same_new (o := .lst (xs.map V.str)) nR
  have hR5 : (upd H4 R (.lst (xs.map V.str))) R = some (.lst (xs.map V.str)) := upd_same
  have hN5 := s5 _ _ hN4
  have hd5 := hd4.new s5
  generalize upd H4 R (.lst (xs.map V.str)) = H5 at hR5 hN5 hd5 ⊢
  clear eR hM4 hN4 hd4 s5 nR wnd hws Ms
  refine ⟨R, _, rfl, .inl (SqL.of hR5), fun h nh => ?_⟩
  have sh := same_new (o := .lst (xs.map V.str)) nh
  have hh8 : (upd H5 h (.lst (xs.map V.str))) h = some (.lst (xs.map V.str)) := upd_same
  have hR8 := sh _ _ hR5
  have hN8 := sh _ _ hN5
  have hd8 := hd5.new sh
  generalize upd H5 h (.lst (xs.map V.str)) = H8 at hh8 hR8 hN8 hd8 ⊢
  clear sh nh hR5 hN5 hd5
  intro a da na nda nea
  refine ⟨a, h, a_KeyOrder, da, xs, rfl, T.n_KeyOrder, upd_same, .inl (same_mk na nda _ _ hh8), by omega, Nms.asc xn, inits_of T.n_KeyOrder na nda (mk_out xn xnd fun H9 s9 hO9 => ⟨rfl, ?_⟩)⟩
  have hR9 := s9 _ _ hR8
  have hN9 := s9 _ _ hN8
  have hd9 := hd8.new s9
  clear s9 na nda nea hh8 hR8 hN8 hd8
  refine ⟨Nat.zero_le _, fun L nL => ?_⟩
  have Ls : L ≠ st := hd9.ne_new nL
  have Lc : L ≠ scr := hd9.ne_scr nL
  have NL : N ≠ L := ne_of_none hN9 nL
  have W0 : Wl K (upd H9 L (.lst [])) st scr L N zs a R xs [] := by
    have s := same_new (o := .lst []) nL
    exact ⟨hd9.new s, s _ _ hN9, upd_same, s _ _ hR9, hO9.same s, Rs, ne_of_none hR9 nL, xn, xnd, fun _ h => nomatch h⟩
  generalize upd H9 L (.lst []) = H10 at W0 ⊢
  clear nL hd9 hR9 hN9 hO9 Rs xn xnd
  refine ⟨st, scr, _, rfl, W0.dr, by decide, many_small (by decide) (by decide), fun r l r0 r1 hd => ?_⟩
  replace W0 := W0.bt Ls Ns Bt.st hd
  generalize upd H10 st (.lst l) = H11 at W0 ⊢
  clear hd
  refine ⟨5 - r, rfl, by omega, by omega, ?_⟩
  obtain ⟨m, hm⟩ : ∃ m : Nat, 5 - r = (m : Int) := ⟨(5 - r).toNat, by omega⟩
  have m5 : m ≤ 5 := by omega
  rw [hm]
  clear hm r0 r1
  refine for_range (lo := 0) (n := m) (fun i σ' H' => ∃ (a R : Addr) (xs : List Str) (ps : List V) (k kd nm du tl : Option V), σ' = [some (.ref s0), some (.ref st), some (.ref N), some (.ref R), some (.ref a), some (.ref a), some (.ref L), k, kd, nm, du, tl, none] ∧ xs.length ≤ 4 + i ∧ ps.length ≤ i ∧ Wl K H' st scr L N zs a R xs ps) ⟨a, R, xs, [], _, _, _, _, _, rfl, by omega, Nat.zero_le _, W0⟩ ?_ ?_
  · clear W0 xl
    rintro i σ' H' hi ⟨a, R, xs, ps, k, kd, nm, du, tl, rfl, xl, pl, W⟩
    refine ⟨st, scr, _, rfl, W.dr, by decide, many_small (by decide) (by decide), fun kk l k0 k1 hd => ?_⟩
    replace W := W.bt Ls Ns Bt.st hd
    generalize upd H' st (.lst l) = H2 at W ⊢
    clear hd
    refine ⟨st, scr, _, rfl, W.dr, .inr ⟨N, _, rfl, W.hN, Ns, by rw [List.length_map]; omega, by rw [List.length_map]; omega, fun x5 l5 hx5 hd5 => ?_⟩⟩
    obtain ⟨it, hit, rfl⟩ := List.mem_map.mp hx5
    replace W := W.bt Ls Ns Bt.st hd5
    generalize upd H2 st (.lst l5) = H3 at W ⊢
    clear hd5 hx5
    refine ⟨fun σ2 H4 => ∃ t : Str, σ2 = [some (.ref s0), some (.ref st), some (.ref N), some (.ref R), some (.ref a), some (.ref a), some (.ref L), some (.int (0 + i)), some (.int kk), some (.str t), du, tl, none] ∧ (isName t = true ↔ t ∈ zs) ∧ t.length ≤ 1000 ∧ Asc t ∧ Wl K H4 st scr L N zs a R xs ps, ?_, ?_⟩
    · refine ⟨st, scr, _, rfl, W.dr, by decide, many_small (by decide) (by decide), fun r6 l6 r60 r61 hd6 => ?_⟩
      replace W := W.bt Ls Ns Bt.st hd6
      generalize upd H3 st (.lst l6) = H4 at W ⊢
      refine ite2 (fun e => ?_) (fun e => ?_)
      · refine ⟨st, scr, it, rfl, W.dr, (zn it hit).1, fun H5 bw b7 hd7 nbw lbw abw => ?_⟩
        refine ⟨bw, rfl, ⟨fun h => ?_, fun h => (zn bw h).1⟩, by omega, abw, W.bt Ls Ns b7 hd7⟩
        rw [nbw] at h
        cases h
      · exact ⟨it, rfl, ⟨fun _ => hit, fun _ => (zn it hit).1⟩, (Nms.asc zn it hit).1, (Nms.asc zn it hit).2, W⟩
    clear W it hit H3
    rintro σ2 H4 ⟨z, rfl, hz, z1, z2, W⟩
    refine ⟨R, N, kk, z, xs, zs, rfl, W.hR, W.hN, by omega, k0, by omega, hz, fun H5 D s5 nD hD => ?_⟩
    have Ds : D ≠ st := W.dr.ne_new nD
    have DL : D ≠ L := (ne_of_none W.hL nD).symm
    replace W := W.new Ls Ns s5
    clear s5 nD
    refine ⟨a, kk, z, xs, rfl, W.hO, by omega, W.xn, W.xd, z1, z2, k0, by omega, deeds_of ?_⟩
    cases ho : outD kk z xs with
    | ref x y c v =>
      rw [ho] at hD
      intro H6 t s6 ht
      have hv : v = .non ∨ ∃ z, v = .str z := by
        rcases outD_ref ho with h | h
        · exact .inl h
        · exact .inr ⟨z, h⟩
      have hD6 : RefT H6 D x y c v := s6 _ _ hD
      replace W := W.new Ls Ns s6
      refine ⟨fun σ' H' => σ' = [some (.ref s0), some (.ref st), some (.ref N), some (.ref R), some (.ref a), some (.ref a), some (.ref L), some (.int (0 + i)), some (.int kk), some (.str z), some (.ref D), some (.ref t), none] ∧ H' = H6, ?_, ?_⟩
      · refine ⟨_, _, _, _, true, rfl, .ty _, .base (.tup hD6), kit_ty (by decide +kernel), ?_⟩
        refine ⟨_, _, rfl, same_ref ht hD6 hv, ?_⟩
        refine ite2 (fun e => nomatch e) (fun _ => ?_)
        exact ⟨rfl, rfl⟩
      rintro σ' H' ⟨rfl, rfl⟩
      refine ⟨a, R, xs, rfl, W.hO, W.hR, by omega, W.xn, W.xd, fun H7 s7 => ?_⟩
      refine ite2 (fun e => nomatch e) (fun _ => ?_)
      replace W := W.new Ls Ns s7
      refine ⟨a, R, xs, rfl, W.hO, W.hR, by omega, W.xn, W.xd, fun H8 s8 => ?_⟩
      refine ite2 (fun e => nomatch e) (fun _ => ?_)
      replace W := W.new Ls Ns s8
      refine ⟨_, _, _, _, false, rfl, .ty _, .base (.tup (s8 _ _ (s7 _ _ hD6))), kit_ty (by decide +kernel), ?_⟩
      exact ⟨a, R, xs, ps, _, _, _, _, _, rfl, by omega, by omega, W⟩
    | order ts =>
      obtain ⟨tn, td, tll⟩ := outD_order ho W.xn W.xd
      rw [ho] at hD
      have hD : H5 D = some (.lst (ts.map V.str)) := hD
      refine ⟨fun k2 => fun H6 t b s6 nt nb hb => ?_, fun k2 => fun H6 t b6 nt hb => ?_⟩
      · obtain ⟨ht, hb⟩ := hb
        have ba : b ≠ a := by
          obtain ⟨C, dx, u, h1, h2, h3⟩ := W.hO
          exact (ne_of_none h2 nb).symm
        have W5 := W.left
        have bl : ∀ p ∈ ps, ∀ (e c d : Addr), p = .ref e → H5 e = some (.tup [.ref c, .ref d]) → c ≠ b := by
          intro p hp e c d hpe he
          obtain ⟨e2, b2, c2, ws, he2, h2, ⟨C, dx, u, h3, h4, h5⟩, _⟩ := W.left p hp
          rw [hpe] at he2
          cases he2
          rw [he] at h2
          cases h2
          exact ne_of_none h4 nb
        have tst : t ≠ st := W.dr.ne_new nt
        have tL : t ≠ L := (ne_of_none W.hL nt).symm
        replace W := W.new Ls Ns s6
        have hD6 := s6 _ _ hD
        have bl6 : ∀ p ∈ ps, ∀ (e c d : Addr), p = .ref e → H6 e = some (.tup [.ref c, .ref d]) → c ≠ b := by
          intro p hp e c d hpe he
          obtain ⟨e2, b2, c2, ws, he2, h2, -⟩ := W5 p hp
          rw [hpe] at he2
          cases he2
          have := (s6 _ _ h2).symm.trans he
          cases this
          exact bl p hp e _ _ hpe h2
        clear bl
        refine ⟨fun σ' H' => σ' = [some (.ref s0), some (.ref st), some (.ref N), some (.ref R), some (.ref a), some (.ref a), some (.ref L), some (.int (0 + i)), some (.int kk), some (.str z), some (.ref D), some (.ref t), none] ∧ Same H6 H', ?_, ?_⟩
        · refine ⟨_, _, _, _, false, rfl, .ty _, .base (.lst hD6), kit_ty (by decide +kernel), ?_⟩
          refine ⟨_, _, _, _, true, rfl, .ty _, .base (.lst ht), kit_ty (by decide +kernel), ?_⟩
          refine ite2 (fun e => nomatch e) (fun _ => ?_)
          refine ⟨_, .inl (SqL.of ht), .ref b, rfl, b, D, ts, rfl, hb, hD6, by omega, tn, td, fun H7 s7 => ?_⟩
          refine ite2 (fun e => nomatch e) (fun _ => ?_)
          refine ite2 (fun e => absurd (of_decide_eq_true e) k2) (fun _ => ?_)
          exact ⟨rfl, s7⟩
        rintro σ' H7 ⟨rfl, s7⟩
        have W6 := W
        replace W := W.new Ls Ns s7
        refine ⟨a, R, xs, rfl, W.hO, W.hR, by omega, W.xn, W.xd, fun H8 s8 => ?_⟩
        refine ite2 (fun e => nomatch e) (fun _ => ?_)
        replace W := W.new Ls Ns s8
        refine ⟨a, R, xs, rfl, W.hO, W.hR, by omega, W.xn, W.xd, fun H9 s9 => ?_⟩
        refine ite2 (fun e => nomatch e) (fun _ => ?_)
        replace W := W.new Ls Ns s9
        have s69 := (s7.trans s8).trans s9
        clear s7 s8 s9
        have hD9 := s69 _ _ hD6
        refine ⟨_, _, _, _, true, rfl, .ty _, .base (.lst hD9), kit_ty (by decide +kernel), ?_⟩
        refine ite2 (fun _ => ?_) (fun e => absurd rfl e)
        refine ⟨_, _, strs_dp hD9, strs_dp W.hR, strs_shaped tn, strs_shaped W.xn, ?_⟩
        refine ite2 (fun _ => ?_) (fun _ => ⟨a, R, xs, ps, _, _, _, _, _, rfl, by omega, by omega, W⟩)
        refine ⟨st, scr, _, rfl, W.dr, by decide, many_small (by decide) (by decide), fun r l r0 r1 hd => ?_⟩
        have hs9 := W.dr.lst
        replace W := W.bt Ls Ns Bt.st hd
        have b9 : Bt st H6 (upd H9 st (.lst l)) := (Bt.same s69).trans Bt.st
        generalize upd H9 st (.lst l) = H10 at W b9 ⊢
        clear hd s69 hD9
        have hs6 := W6.dr.lst
        refine ite2 (fun _ => ?_) (fun _ => ⟨a, R, xs, ps, _, _, _, _, _, rfl, by omega, by omega, W⟩)
        have hD10 := b9 _ _ Ds hD6
        have ht10 := b9 _ _ tst ht
        have hb10 := hb.bt hs6 b9
        have bl10 : ∀ p ∈ ps, ∀ (e c d : Addr), p = .ref e → H10 e = some (.tup [.ref c, .ref d]) → c ≠ b := by
          intro p hp e c d hpe he
          obtain ⟨e2, b2, c2, ws, he2, h2, -⟩ := W6.left p hp
          rw [hpe] at he2
          cases he2
          obtain ⟨l6, hl6⟩ := hs6
          have := (b9 _ _ (ne_of h2 hl6 (by intro e; cases e)) h2).symm.trans he
          cases this
          exact bl6 p hp e _ _ hpe h2
        refine ⟨.inl ⟨rfl, _, SqL.of W.hL⟩, (by show 2 ≤ sizeLine; decide), fun e ne => ?_⟩
        have se := same_new (o := .tup [.ref a, .ref R]) ne
        have Lne : ∃ l, H10 L = some (.lst l) := ⟨_, W.hL⟩
        refine ⟨L, ps, .ref e, rfl, rfl, se _ _ W.hL, line_lt (by omega), ?_⟩
        refine ⟨_, .inl (SqL.of (by rw [upd_ne tL]; exact se _ _ ht10)), .ref b, rfl, ?_⟩
        exact ⟨b, D, ts, ps ++ [.ref e], _, _, _, _, _, rfl, by omega, by rw [List.length_append, List.length_singleton]; omega, W.leave Ls Lc NL (by omega) hb10 ba bl10 hD10 Ds DL tn td ne rfl⟩
      · obtain ⟨ht, hb⟩ := hb
        have a1 : ∀ {p : Addr} {l : List V}, H5 p = some (.lst l) → H6 p = some (.lst l) := fun h => b6 _ _ (Wl.not_a W.hO ⟨_, h⟩) h
        replace W := W.deed b6 hb hD Ds DL tn td
        have hD6 := a1 hD
        refine ⟨fun σ' H' => σ' = [some (.ref s0), some (.ref st), some (.ref N), some (.ref D), some (.ref a), some (.ref a), some (.ref L), some (.int (0 + i)), some (.int kk), some (.str z), some (.ref D), some (.ref t), none] ∧ Same H6 H', ?_, ?_⟩
        · refine ⟨_, _, _, _, false, rfl, .ty _, .base (.lst hD6), kit_ty (by decide +kernel), ?_⟩
          refine ⟨_, _, _, _, true, rfl, .ty _, .base (.lst ht), kit_ty (by decide +kernel), ?_⟩
          refine ite2 (fun e => nomatch e) (fun _ => ?_)
          refine ⟨_, .inl (SqL.of ht), .ref a, rfl, a, D, ts, rfl, hb, hD6, by omega, tn, td, fun H7 s7 => ?_⟩
          refine ite2 (fun e => nomatch e) (fun _ => ?_)
          refine ite2 (fun _ => ?_) (fun e => absurd (decide_eq_true k2) e)
          exact ⟨rfl, s7⟩
        rintro σ' H7 ⟨rfl, s7⟩
        replace W := W.new Ls Ns s7
        refine ⟨a, D, ts, rfl, W.hO, W.hR, by omega, W.xn, W.xd, fun H8 s8 => ?_⟩
        refine ite2 (fun e => nomatch e) (fun _ => ?_)
        replace W := W.new Ls Ns s8
        refine ⟨a, D, ts, rfl, W.hO, W.hR, by omega, W.xn, W.xd, fun H9 s9 => ?_⟩
        refine ite2 (fun e => nomatch e) (fun _ => ?_)
        replace W := W.new Ls Ns s9
        refine ⟨_, _, _, _, true, rfl, .ty _, .base (.lst W.hR), kit_ty (by decide +kernel), ?_⟩
        refine ite2 (fun _ => ?_) (fun e => absurd rfl e)
        refine ⟨_, _, strs_dp W.hR, strs_dp W.hR, strs_shaped tn, strs_shaped tn, ?_⟩
        have ev : PyData.eqv (.list (ts.map PyData.str)) (.list (ts.map PyData.str)) = true := by
          simp only [PyData.eqv]
          exact strs_eqv ts
        rw [ev]
        refine ite2 (fun e => nomatch e) (fun _ => ?_)
        exact ⟨a, D, ts, ps, _, _, _, _, _, rfl, by omega, by omega, W⟩
  rintro σ' H' ⟨a, R, xs, ps, k, kd, nm, du, tl, rfl, xl, pl, W⟩
  refine ⟨L, rfl, ⟨_, SqL.of W.hL⟩, fun D nD => ?_⟩
  refine lc_it (walk_list (xs := ps)) (fun j H2 => Same H' H2 ∧ H2 D = some (.lst [])) ⟨same_new nD, upd_same⟩ (fun _ _ _ h => SqL.of (h.1 _ _ W.hL)) ?_ ?_
  · rintro j v H3 H4 hj ⟨s3, hD⟩ ⟨rfl, hv⟩
    obtain ⟨e, b, c, ws, rfl, he, hb, ba, hc, cs, cL, wl, wn, wd⟩ := W.left v (List.mem_of_getElem? hv)
    refine ⟨rfl, ?_⟩
    refine ⟨_, .inr (SqT.of (s3 _ _ he)), .ref b, rfl, _, .inr (SqT.of (s3 _ _ he)), .ref c, rfl, b, c, ws, rfl, hb.same s3, s3 _ _ hc, wl, wn, wd, fun H5 s5 => ?_⟩
    exact ⟨s3.trans s5, s5 _ _ hD⟩
  · rintro H2 ⟨s2, hD⟩
    refine .inl ⟨_, .inl (SqL.of hD), ?_⟩
    exact q _
end
theorem all_mk {l : PySem.W.OpenLaw} {w : World} {K : PySem.W.Frag} {h : Heap} {mg : Str → Option Value} {fa : Addr} {t_LETTERS t_LONGEST_NAME : Tok} {a_RESERVED a_BadName a_BadOrder a_ElseputError a_KeyOrder a_UnknownKey : Addr} {f_is_name f_check_name f__law_state f__law_draw f__law_pick f__law_mixed f__law_names f__law_is_int f__law_same f__law_bad_name f_KeyOrder___init__ f_KeyOrder___add__ f_KeyOrder___radd__ f_KeyOrder___iadd__ f_KeyOrder___sub__ f_KeyOrder___invert__ f__law_deed f__law_due f_KeyOrder___contains__ f_KeyOrder___iter__ f_KeyOrder___len__ f_KeyOrder___getitem__ f__law_fits f_law : Addr} {od_is_name an_is_name : Option Addr} {sl_is_name : Array (Option Value)} {oc_is_name kV_is_name dc_is_name pm_is_name cd_is_name ct_is_name : Value} {od_check_name an_check_name : Option Addr} {sl_check_name : Array (Option Value)} {oc_check_name kV_check_name dc_check_name pm_check_name cd_check_name ct_check_name : Value} {od__law_state an__law_state : Option Addr} {sl__law_state : Array (Option Value)} {oc__law_state kV__law_state dc__law_state pm__law_state cd__law_state ct__law_state : Value} {od__law_draw an__law_draw : Option Addr} {sl__law_draw : Array (Option Value)} {oc__law_draw kV__law_draw dc__law_draw pm__law_draw cd__law_draw ct__law_draw : Value} {od__law_pick an__law_pick : Option Addr} {sl__law_pick : Array (Option Value)} {oc__law_pick kV__law_pick dc__law_pick pm__law_pick cd__law_pick ct__law_pick : Value} {od__law_mixed an__law_mixed : Option Addr} {sl__law_mixed : Array (Option Value)} {oc__law_mixed kV__law_mixed dc__law_mixed pm__law_mixed cd__law_mixed ct__law_mixed : Value} {od__law_names an__law_names : Option Addr} {sl__law_names : Array (Option Value)} {oc__law_names kV__law_names dc__law_names pm__law_names cd__law_names ct__law_names : Value} {od__law_is_int an__law_is_int : Option Addr} {sl__law_is_int : Array (Option Value)} {oc__law_is_int kV__law_is_int dc__law_is_int pm__law_is_int cd__law_is_int ct__law_is_int : Value} {od__law_same an__law_same : Option Addr} {sl__law_same : Array (Option Value)} {oc__law_same kV__law_same dc__law_same pm__law_same cd__law_same ct__law_same : Value} {od__law_bad_name an__law_bad_name : Option Addr} {sl__law_bad_name : Array (Option Value)} {oc__law_bad_name kV__law_bad_name dc__law_bad_name pm__law_bad_name cd__law_bad_name ct__law_bad_name : Value} {od_KeyOrder___init__ an_KeyOrder___init__ : Option Addr} {sl_KeyOrder___init__ : Array (Option Value)} {oc_KeyOrder___init__ kV_KeyOrder___init__ dc_KeyOrder___init__ pm_KeyOrder___init__ cd_KeyOrder___init__ ct_KeyOrder___init__ : Value} {ra_KeyOrder___add__ : Addr} {fo_KeyOrder___add__ ro_KeyOrder___add__ : Option Value} {od_KeyOrder___add__ an_KeyOrder___add__ : Option Addr} {sl_KeyOrder___add__ : Array (Option Value)} {oc_KeyOrder___add__ kV_KeyOrder___add__ dc_KeyOrder___add__ pm_KeyOrder___add__ cd_KeyOrder___add__ ct_KeyOrder___add__ : Value} {ga_KeyOrder___radd__ : Addr} {od_KeyOrder___radd__ an_KeyOrder___radd__ : Option Addr} {sl_KeyOrder___radd__ : Array (Option Value)} {oc_KeyOrder___radd__ kV_KeyOrder___radd__ dc_KeyOrder___radd__ pm_KeyOrder___radd__ cd_KeyOrder___radd__ ct_KeyOrder___radd__ : Value} {od_KeyOrder___iadd__ an_KeyOrder___iadd__ : Option Addr} {sl_KeyOrder___iadd__ : Array (Option Value)} {oc_KeyOrder___iadd__ kV_KeyOrder___iadd__ dc_KeyOrder___iadd__ pm_KeyOrder___iadd__ cd_KeyOrder___iadd__ ct_KeyOrder___iadd__ : Value} {fo_KeyOrder___sub__ ro_KeyOrder___sub__ : Option Value} {od_KeyOrder___sub__ an_KeyOrder___sub__ : Option Addr} {sl_KeyOrder___sub__ : Array (Option Value)} {oc_KeyOrder___sub__ kV_KeyOrder___sub__ dc_KeyOrder___sub__ pm_KeyOrder___sub__ cd_KeyOrder___sub__ ct_KeyOrder___sub__ : Value} {od_KeyOrder___invert__ an_KeyOrder___invert__ : Option Addr} {sl_KeyOrder___invert__ : Array (Option Value)} {oc_KeyOrder___invert__ kV_KeyOrder___invert__ dc_KeyOrder___invert__ pm_KeyOrder___invert__ cd_KeyOrder___invert__ ct_KeyOrder___invert__ : Value} {od__law_deed an__law_deed : Option Addr} {sl__law_deed : Array (Option Value)} {oc__law_deed kV__law_deed dc__law_deed pm__law_deed cd__law_deed ct__law_deed : Value} {od__law_due an__law_due : Option Addr} {sl__law_due : Array (Option Value)} {oc__law_due kV__law_due dc__law_due pm__law_due cd__law_due ct__law_due : Value} {od_KeyOrder___contains__ an_KeyOrder___contains__ : Option Addr} {sl_KeyOrder___contains__ : Array (Option Value)} {oc_KeyOrder___contains__ kV_KeyOrder___contains__ dc_KeyOrder___contains__ pm_KeyOrder___contains__ cd_KeyOrder___contains__ ct_KeyOrder___contains__ : Value} {od_KeyOrder___iter__ an_KeyOrder___iter__ : Option Addr} {sl_KeyOrder___iter__ : Array (Option Value)} {oc_KeyOrder___iter__ kV_KeyOrder___iter__ dc_KeyOrder___iter__ pm_KeyOrder___iter__ cd_KeyOrder___iter__ ct_KeyOrder___iter__ : Value} {od_KeyOrder___len__ an_KeyOrder___len__ : Option Addr} {sl_KeyOrder___len__ : Array (Option Value)} {oc_KeyOrder___len__ kV_KeyOrder___len__ dc_KeyOrder___len__ pm_KeyOrder___len__ cd_KeyOrder___len__ ct_KeyOrder___len__ : Value} {od_KeyOrder___getitem__ an_KeyOrder___getitem__ : Option Addr} {sl_KeyOrder___getitem__ : Array (Option Value)} {oc_KeyOrder___getitem__ kV_KeyOrder___getitem__ dc_KeyOrder___getitem__ pm_KeyOrder___getitem__ cd_KeyOrder___getitem__ ct_KeyOrder___getitem__ : Value} {od__law_fits an__law_fits : Option Addr} {sl__law_fits : Array (Option Value)} {oc__law_fits kV__law_fits dc__law_fits pm__law_fits cd__law_fits ct__law_fits : Value} {od_law an_law : Option Addr} {sl_law : Array (Option Value)} {oc_law kV_law dc_law pm_law cd_law ct_law : Value} {od_RESERVED : Option Addr} {its_RESERVED : Array Value} {n_RESERVED : Nat} {sl_RESERVED : Array (Option Value)} {f_BadName N_BadName cc_BadName cda_BadName : Addr} {nm_BadName q_BadName : Str} {bs_BadName bm_BadName : List Value} {sn_BadName : List Str} {sub_BadName : List Value} {ab_BadName : Bool} {col_BadName : Option Bool} {dd_BadName : Option Addr} {e0_BadName e1_BadName e2_BadName e3_BadName e5_BadName : Option Value} {oc_BadName doc_BadName pm_BadName ct_BadName ccl_BadName cl_BadName : Value} {od_BadName cdd_BadName cld_BadName : Option Addr} {osl_BadName ccs_BadName csl_BadName : Array (Option Value)} {vs_BadName : Array Value} {file_BadName : Str} {tf_BadName : Tok} {cdD_BadName : ClassData} {f_BadOrder N_BadOrder cc_BadOrder cda_BadOrder : Addr} {nm_BadOrder q_BadOrder : Str} {bs_BadOrder bm_BadOrder : List Value} {sn_BadOrder : List Str} {sub_BadOrder : List Value} {ab_BadOrder : Bool} {col_BadOrder : Option Bool} {dd_BadOrder : Option Addr} {e0_BadOrder e1_BadOrder e2_BadOrder e3_BadOrder e5_BadOrder : Option Value} {oc_BadOrder doc_BadOrder pm_BadOrder ct_BadOrder ccl_BadOrder cl_BadOrder : Value} {od_BadOrder cdd_BadOrder cld_BadOrder : Option Addr} {osl_BadOrder ccs_BadOrder csl_BadOrder : Array (Option Value)} {vs_BadOrder : Array Value} {file_BadOrder : Str} {tf_BadOrder : Tok} {cdD_BadOrder : ClassData} {f_UnknownKey N_UnknownKey cc_UnknownKey cda_UnknownKey : Addr} {nm_UnknownKey q_UnknownKey : Str} {bs_UnknownKey bm_UnknownKey : List Value} {sn_UnknownKey : List Str} {sub_UnknownKey : List Value} {ab_UnknownKey : Bool} {col_UnknownKey : Option Bool} {dd_UnknownKey : Option Addr} {e0_UnknownKey e1_UnknownKey e2_UnknownKey e3_UnknownKey e5_UnknownKey : Option Value} {oc_UnknownKey doc_UnknownKey pm_UnknownKey ct_UnknownKey ccl_UnknownKey cl_UnknownKey : Value} {od_UnknownKey cdd_UnknownKey cld_UnknownKey : Option Addr} {osl_UnknownKey ccs_UnknownKey csl_UnknownKey : Array (Option Value)} {vs_UnknownKey : Array Value} {file_UnknownKey : Str} {tf_UnknownKey : Tok} {cdD_UnknownKey : ClassData} {D_UnknownKey : Addr} (X : K.In h) (G : h.Ns mainGlobals mg) (hfa : mg "law" = some (.ref fa))
    (g_KeyOrder : PySem.W.nsIn K mainGlobals "KeyOrder" = some (some (.ref a_KeyOrder)))
    (pg_KeyOrder : PySem.W.plainGet K a_KeyOrder Str.empty = true)
    (hx_KeyOrder : PySem.W.hasDictIn K a_KeyOrder = true)
    (po_KeyOrder : PySem.W.plainOver K a_KeyOrder = true)
    (st_KeyOrder : PySem.W.findIn K (.ref a_KeyOrder) "__setattr__" = some (some (.builtin "object.__setattr__")))
    (rr_KeyOrder : PySem.W.readsIn K a_KeyOrder (.type "type") = true)
    (rg_KeyOrder : PySem.W.specialIn K (.ref a_KeyOrder) "__getattribute__" = some (some (.builtin "type.__getattribute__")))
    (mi_KeyOrder : PySem.W.makesIn K a_KeyOrder = true)
    (ko_KeyOrder : PySem.W.keepIn K (.ref a_KeyOrder) = true)
    (sf_KeyOrder : PySem.W.selfFirst K a_KeyOrder = true)
    (hcl_KeyOrder : PySem.W.findIn K (.ref a_KeyOrder) "__class__" = some (some (.builtin "object.__class__")))
    (hn_KeyOrder : PySem.W.specialIn K (.builtin "object.__class__") "__get__" = some (some (.builtin "getset_descriptor.__get__")))
    (ht_KeyOrder : PySem.W.takesIn K (.builtin "object.__class__") = some true)
    (hm_KeyOrder : PySem.W.mroIn K a_KeyOrder (.type "object") = some true)
    (na_KeyOrder_names : PySem.W.findIn K (.ref a_KeyOrder) "names" = some none)
    (a_is_name : PySem.W.nsIn K mainGlobals "is_name" = some (some (.ref f_is_name)))
    (l_is_name : K.lookup f_is_name = some ⟨oc_is_name, od_is_name, .func (PySem.W.fnOf "is_name" "is_name" (defArgs s_is_name) (defBody s_is_name) (defScope s_is_name) .none kV_is_name dc_is_name pm_is_name an_is_name cd_is_name ct_is_name), sl_is_name⟩)
    (c_is_name : PySem.W.codeIn K cd_is_name "is_name" = true)
    (k_is_name : PySem.W.keepIn K (.ref f_is_name) = true)
    (a_check_name : PySem.W.nsIn K mainGlobals "check_name" = some (some (.ref f_check_name)))
    (l_check_name : K.lookup f_check_name = some ⟨oc_check_name, od_check_name, .func (PySem.W.fnOf "check_name" "check_name" (defArgs s_check_name) (defBody s_check_name) (defScope s_check_name) .none kV_check_name dc_check_name pm_check_name an_check_name cd_check_name ct_check_name), sl_check_name⟩)
    (c_check_name : PySem.W.codeIn K cd_check_name "check_name" = true)
    (k_check_name : PySem.W.keepIn K (.ref f_check_name) = true)
    (a__law_state : PySem.W.nsIn K mainGlobals "_law_state" = some (some (.ref f__law_state)))
    (l__law_state : K.lookup f__law_state = some ⟨oc__law_state, od__law_state, .func (PySem.W.fnOf "_law_state" "_law_state" (defArgs s__law_state) (defBody s__law_state) (defScope s__law_state) .none kV__law_state dc__law_state pm__law_state an__law_state cd__law_state ct__law_state), sl__law_state⟩)
    (c__law_state : PySem.W.codeIn K cd__law_state "_law_state" = true)
    (k__law_state : PySem.W.keepIn K (.ref f__law_state) = true)
    (a__law_draw : PySem.W.nsIn K mainGlobals "_law_draw" = some (some (.ref f__law_draw)))
    (l__law_draw : K.lookup f__law_draw = some ⟨oc__law_draw, od__law_draw, .func (PySem.W.fnOf "_law_draw" "_law_draw" (defArgs s__law_draw) (defBody s__law_draw) (defScope s__law_draw) .none kV__law_draw dc__law_draw pm__law_draw an__law_draw cd__law_draw ct__law_draw), sl__law_draw⟩)
    (c__law_draw : PySem.W.codeIn K cd__law_draw "_law_draw" = true)
    (k__law_draw : PySem.W.keepIn K (.ref f__law_draw) = true)
    (a__law_pick : PySem.W.nsIn K mainGlobals "_law_pick" = some (some (.ref f__law_pick)))
    (l__law_pick : K.lookup f__law_pick = some ⟨oc__law_pick, od__law_pick, .func (PySem.W.fnOf "_law_pick" "_law_pick" (defArgs s__law_pick) (defBody s__law_pick) (defScope s__law_pick) .none kV__law_pick dc__law_pick pm__law_pick an__law_pick cd__law_pick ct__law_pick), sl__law_pick⟩)
    (c__law_pick : PySem.W.codeIn K cd__law_pick "_law_pick" = true)
    (k__law_pick : PySem.W.keepIn K (.ref f__law_pick) = true)
    (a__law_mixed : PySem.W.nsIn K mainGlobals "_law_mixed" = some (some (.ref f__law_mixed)))
    (l__law_mixed : K.lookup f__law_mixed = some ⟨oc__law_mixed, od__law_mixed, .func (PySem.W.fnOf "_law_mixed" "_law_mixed" (defArgs s__law_mixed) (defBody s__law_mixed) (defScope s__law_mixed) .none kV__law_mixed dc__law_mixed pm__law_mixed an__law_mixed cd__law_mixed ct__law_mixed), sl__law_mixed⟩)
    (c__law_mixed : PySem.W.codeIn K cd__law_mixed "_law_mixed" = true)
    (k__law_mixed : PySem.W.keepIn K (.ref f__law_mixed) = true)
    (a__law_names : PySem.W.nsIn K mainGlobals "_law_names" = some (some (.ref f__law_names)))
    (l__law_names : K.lookup f__law_names = some ⟨oc__law_names, od__law_names, .func (PySem.W.fnOf "_law_names" "_law_names" (defArgs s__law_names) (defBody s__law_names) (defScope s__law_names) .none kV__law_names dc__law_names pm__law_names an__law_names cd__law_names ct__law_names), sl__law_names⟩)
    (c__law_names : PySem.W.codeIn K cd__law_names "_law_names" = true)
    (k__law_names : PySem.W.keepIn K (.ref f__law_names) = true)
    (a__law_is_int : PySem.W.nsIn K mainGlobals "_law_is_int" = some (some (.ref f__law_is_int)))
    (l__law_is_int : K.lookup f__law_is_int = some ⟨oc__law_is_int, od__law_is_int, .func (PySem.W.fnOf "_law_is_int" "_law_is_int" (defArgs s__law_is_int) (defBody s__law_is_int) (defScope s__law_is_int) .none kV__law_is_int dc__law_is_int pm__law_is_int an__law_is_int cd__law_is_int ct__law_is_int), sl__law_is_int⟩)
    (c__law_is_int : PySem.W.codeIn K cd__law_is_int "_law_is_int" = true)
    (k__law_is_int : PySem.W.keepIn K (.ref f__law_is_int) = true)
    (a__law_same : PySem.W.nsIn K mainGlobals "_law_same" = some (some (.ref f__law_same)))
    (l__law_same : K.lookup f__law_same = some ⟨oc__law_same, od__law_same, .func (PySem.W.fnOf "_law_same" "_law_same" (defArgs s__law_same) (defBody s__law_same) (defScope s__law_same) .none kV__law_same dc__law_same pm__law_same an__law_same cd__law_same ct__law_same), sl__law_same⟩)
    (c__law_same : PySem.W.codeIn K cd__law_same "_law_same" = true)
    (k__law_same : PySem.W.keepIn K (.ref f__law_same) = true)
    (a__law_bad_name : PySem.W.nsIn K mainGlobals "_law_bad_name" = some (some (.ref f__law_bad_name)))
    (l__law_bad_name : K.lookup f__law_bad_name = some ⟨oc__law_bad_name, od__law_bad_name, .func (PySem.W.fnOf "_law_bad_name" "_law_bad_name" (defArgs s__law_bad_name) (defBody s__law_bad_name) (defScope s__law_bad_name) .none kV__law_bad_name dc__law_bad_name pm__law_bad_name an__law_bad_name cd__law_bad_name ct__law_bad_name), sl__law_bad_name⟩)
    (c__law_bad_name : PySem.W.codeIn K cd__law_bad_name "_law_bad_name" = true)
    (k__law_bad_name : PySem.W.keepIn K (.ref f__law_bad_name) = true)
    (fa_KeyOrder___init__ : PySem.W.findIn K (.ref a_KeyOrder) "__init__" = some (some (.ref f_KeyOrder___init__)))
    (fn_KeyOrder___init__ : PySem.W.isFn K (.ref f_KeyOrder___init__) = true)
    (l_KeyOrder___init__ : K.lookup f_KeyOrder___init__ = some ⟨oc_KeyOrder___init__, od_KeyOrder___init__, .func (PySem.W.fnOf "__init__" "KeyOrder.__init__" (defArgs s_KeyOrder___init__) (defBody s_KeyOrder___init__) (defScope s_KeyOrder___init__) .none kV_KeyOrder___init__ dc_KeyOrder___init__ pm_KeyOrder___init__ an_KeyOrder___init__ cd_KeyOrder___init__ ct_KeyOrder___init__), sl_KeyOrder___init__⟩)
    (c_KeyOrder___init__ : PySem.W.codeIn K cd_KeyOrder___init__ "KeyOrder.__init__" = true)
    (k_KeyOrder___init__ : PySem.W.keepIn K (.ref f_KeyOrder___init__) = true)
    (rh_KeyOrder___add__ : PySem.W.findIn K (.ref a_KeyOrder) "__radd__" = some (some (.ref ra_KeyOrder___add__)))
    (rf_KeyOrder___add__ : PySem.W.findIn K (.type "str") "__add__" = some fo_KeyOrder___add__)
    (rr_KeyOrder___add__ : PySem.W.findIn K (.type "str") "__radd__" = some ro_KeyOrder___add__)
    (rs_KeyOrder___add__ : PySem.W.subIn K (.type "str") (.ref a_KeyOrder) = some false)
    (fa_KeyOrder___add__ : PySem.W.findIn K (.ref a_KeyOrder) "__add__" = some (some (.ref f_KeyOrder___add__)))
    (fn_KeyOrder___add__ : PySem.W.isFn K (.ref f_KeyOrder___add__) = true)
    (l_KeyOrder___add__ : K.lookup f_KeyOrder___add__ = some ⟨oc_KeyOrder___add__, od_KeyOrder___add__, .func (PySem.W.fnOf "__add__" "KeyOrder.__add__" (defArgs s_KeyOrder___add__) (defBody s_KeyOrder___add__) (defScope s_KeyOrder___add__) .none kV_KeyOrder___add__ dc_KeyOrder___add__ pm_KeyOrder___add__ an_KeyOrder___add__ cd_KeyOrder___add__ ct_KeyOrder___add__), sl_KeyOrder___add__⟩)
    (c_KeyOrder___add__ : PySem.W.codeIn K cd_KeyOrder___add__ "KeyOrder.__add__" = true)
    (k_KeyOrder___add__ : PySem.W.keepIn K (.ref f_KeyOrder___add__) = true)
    (rm_KeyOrder___radd__ : PySem.W.findIn K (.ref a_KeyOrder) "__add__" = some (some (.ref ga_KeyOrder___radd__)))
    (fa_KeyOrder___radd__ : PySem.W.findIn K (.ref a_KeyOrder) "__radd__" = some (some (.ref f_KeyOrder___radd__)))
    (fn_KeyOrder___radd__ : PySem.W.isFn K (.ref f_KeyOrder___radd__) = true)
    (l_KeyOrder___radd__ : K.lookup f_KeyOrder___radd__ = some ⟨oc_KeyOrder___radd__, od_KeyOrder___radd__, .func (PySem.W.fnOf "__radd__" "KeyOrder.__radd__" (defArgs s_KeyOrder___radd__) (defBody s_KeyOrder___radd__) (defScope s_KeyOrder___radd__) .none kV_KeyOrder___radd__ dc_KeyOrder___radd__ pm_KeyOrder___radd__ an_KeyOrder___radd__ cd_KeyOrder___radd__ ct_KeyOrder___radd__), sl_KeyOrder___radd__⟩)
    (c_KeyOrder___radd__ : PySem.W.codeIn K cd_KeyOrder___radd__ "KeyOrder.__radd__" = true)
    (k_KeyOrder___radd__ : PySem.W.keepIn K (.ref f_KeyOrder___radd__) = true)
    (fa_KeyOrder___iadd__ : PySem.W.findIn K (.ref a_KeyOrder) "__iadd__" = some (some (.ref f_KeyOrder___iadd__)))
    (fn_KeyOrder___iadd__ : PySem.W.isFn K (.ref f_KeyOrder___iadd__) = true)
    (l_KeyOrder___iadd__ : K.lookup f_KeyOrder___iadd__ = some ⟨oc_KeyOrder___iadd__, od_KeyOrder___iadd__, .func (PySem.W.fnOf "__iadd__" "KeyOrder.__iadd__" (defArgs s_KeyOrder___iadd__) (defBody s_KeyOrder___iadd__) (defScope s_KeyOrder___iadd__) .none kV_KeyOrder___iadd__ dc_KeyOrder___iadd__ pm_KeyOrder___iadd__ an_KeyOrder___iadd__ cd_KeyOrder___iadd__ ct_KeyOrder___iadd__), sl_KeyOrder___iadd__⟩)
    (c_KeyOrder___iadd__ : PySem.W.codeIn K cd_KeyOrder___iadd__ "KeyOrder.__iadd__" = true)
    (k_KeyOrder___iadd__ : PySem.W.keepIn K (.ref f_KeyOrder___iadd__) = true)
    (rh_KeyOrder___sub__ : PySem.W.findIn K (.ref a_KeyOrder) "__rsub__" = some none)
    (rf_KeyOrder___sub__ : PySem.W.findIn K (.type "str") "__sub__" = some fo_KeyOrder___sub__)
    (rr_KeyOrder___sub__ : PySem.W.findIn K (.type "str") "__rsub__" = some ro_KeyOrder___sub__)
    (rs_KeyOrder___sub__ : PySem.W.subIn K (.type "str") (.ref a_KeyOrder) = some false)
    (fa_KeyOrder___sub__ : PySem.W.findIn K (.ref a_KeyOrder) "__sub__" = some (some (.ref f_KeyOrder___sub__)))
    (fn_KeyOrder___sub__ : PySem.W.isFn K (.ref f_KeyOrder___sub__) = true)
    (l_KeyOrder___sub__ : K.lookup f_KeyOrder___sub__ = some ⟨oc_KeyOrder___sub__, od_KeyOrder___sub__, .func (PySem.W.fnOf "__sub__" "KeyOrder.__sub__" (defArgs s_KeyOrder___sub__) (defBody s_KeyOrder___sub__) (defScope s_KeyOrder___sub__) .none kV_KeyOrder___sub__ dc_KeyOrder___sub__ pm_KeyOrder___sub__ an_KeyOrder___sub__ cd_KeyOrder___sub__ ct_KeyOrder___sub__), sl_KeyOrder___sub__⟩)
    (c_KeyOrder___sub__ : PySem.W.codeIn K cd_KeyOrder___sub__ "KeyOrder.__sub__" = true)
    (k_KeyOrder___sub__ : PySem.W.keepIn K (.ref f_KeyOrder___sub__) = true)
    (fa_KeyOrder___invert__ : PySem.W.findIn K (.ref a_KeyOrder) "__invert__" = some (some (.ref f_KeyOrder___invert__)))
    (fn_KeyOrder___invert__ : PySem.W.isFn K (.ref f_KeyOrder___invert__) = true)
    (l_KeyOrder___invert__ : K.lookup f_KeyOrder___invert__ = some ⟨oc_KeyOrder___invert__, od_KeyOrder___invert__, .func (PySem.W.fnOf "__invert__" "KeyOrder.__invert__" (defArgs s_KeyOrder___invert__) (defBody s_KeyOrder___invert__) (defScope s_KeyOrder___invert__) .none kV_KeyOrder___invert__ dc_KeyOrder___invert__ pm_KeyOrder___invert__ an_KeyOrder___invert__ cd_KeyOrder___invert__ ct_KeyOrder___invert__), sl_KeyOrder___invert__⟩)
    (c_KeyOrder___invert__ : PySem.W.codeIn K cd_KeyOrder___invert__ "KeyOrder.__invert__" = true)
    (k_KeyOrder___invert__ : PySem.W.keepIn K (.ref f_KeyOrder___invert__) = true)
    (a__law_deed : PySem.W.nsIn K mainGlobals "_law_deed" = some (some (.ref f__law_deed)))
    (l__law_deed : K.lookup f__law_deed = some ⟨oc__law_deed, od__law_deed, .func (PySem.W.fnOf "_law_deed" "_law_deed" (defArgs s__law_deed) (defBody s__law_deed) (defScope s__law_deed) .none kV__law_deed dc__law_deed pm__law_deed an__law_deed cd__law_deed ct__law_deed), sl__law_deed⟩)
    (c__law_deed : PySem.W.codeIn K cd__law_deed "_law_deed" = true)
    (k__law_deed : PySem.W.keepIn K (.ref f__law_deed) = true)
    (a__law_due : PySem.W.nsIn K mainGlobals "_law_due" = some (some (.ref f__law_due)))
    (l__law_due : K.lookup f__law_due = some ⟨oc__law_due, od__law_due, .func (PySem.W.fnOf "_law_due" "_law_due" (defArgs s__law_due) (defBody s__law_due) (defScope s__law_due) .none kV__law_due dc__law_due pm__law_due an__law_due cd__law_due ct__law_due), sl__law_due⟩)
    (c__law_due : PySem.W.codeIn K cd__law_due "_law_due" = true)
    (k__law_due : PySem.W.keepIn K (.ref f__law_due) = true)
    (fa_KeyOrder___contains__ : PySem.W.findIn K (.ref a_KeyOrder) "__contains__" = some (some (.ref f_KeyOrder___contains__)))
    (fn_KeyOrder___contains__ : PySem.W.isFn K (.ref f_KeyOrder___contains__) = true)
    (l_KeyOrder___contains__ : K.lookup f_KeyOrder___contains__ = some ⟨oc_KeyOrder___contains__, od_KeyOrder___contains__, .func (PySem.W.fnOf "__contains__" "KeyOrder.__contains__" (defArgs s_KeyOrder___contains__) (defBody s_KeyOrder___contains__) (defScope s_KeyOrder___contains__) .none kV_KeyOrder___contains__ dc_KeyOrder___contains__ pm_KeyOrder___contains__ an_KeyOrder___contains__ cd_KeyOrder___contains__ ct_KeyOrder___contains__), sl_KeyOrder___contains__⟩)
    (c_KeyOrder___contains__ : PySem.W.codeIn K cd_KeyOrder___contains__ "KeyOrder.__contains__" = true)
    (k_KeyOrder___contains__ : PySem.W.keepIn K (.ref f_KeyOrder___contains__) = true)
    (fa_KeyOrder___iter__ : PySem.W.findIn K (.ref a_KeyOrder) "__iter__" = some (some (.ref f_KeyOrder___iter__)))
    (fn_KeyOrder___iter__ : PySem.W.isFn K (.ref f_KeyOrder___iter__) = true)
    (l_KeyOrder___iter__ : K.lookup f_KeyOrder___iter__ = some ⟨oc_KeyOrder___iter__, od_KeyOrder___iter__, .func (PySem.W.fnOf "__iter__" "KeyOrder.__iter__" (defArgs s_KeyOrder___iter__) (defBody s_KeyOrder___iter__) (defScope s_KeyOrder___iter__) .none kV_KeyOrder___iter__ dc_KeyOrder___iter__ pm_KeyOrder___iter__ an_KeyOrder___iter__ cd_KeyOrder___iter__ ct_KeyOrder___iter__), sl_KeyOrder___iter__⟩)
    (c_KeyOrder___iter__ : PySem.W.codeIn K cd_KeyOrder___iter__ "KeyOrder.__iter__" = true)
    (k_KeyOrder___iter__ : PySem.W.keepIn K (.ref f_KeyOrder___iter__) = true)
    (fa_KeyOrder___len__ : PySem.W.findIn K (.ref a_KeyOrder) "__len__" = some (some (.ref f_KeyOrder___len__)))
    (fn_KeyOrder___len__ : PySem.W.isFn K (.ref f_KeyOrder___len__) = true)
    (l_KeyOrder___len__ : K.lookup f_KeyOrder___len__ = some ⟨oc_KeyOrder___len__, od_KeyOrder___len__, .func (PySem.W.fnOf "__len__" "KeyOrder.__len__" (defArgs s_KeyOrder___len__) (defBody s_KeyOrder___len__) (defScope s_KeyOrder___len__) .none kV_KeyOrder___len__ dc_KeyOrder___len__ pm_KeyOrder___len__ an_KeyOrder___len__ cd_KeyOrder___len__ ct_KeyOrder___len__), sl_KeyOrder___len__⟩)
    (c_KeyOrder___len__ : PySem.W.codeIn K cd_KeyOrder___len__ "KeyOrder.__len__" = true)
    (k_KeyOrder___len__ : PySem.W.keepIn K (.ref f_KeyOrder___len__) = true)
    (fa_KeyOrder___getitem__ : PySem.W.findIn K (.ref a_KeyOrder) "__getitem__" = some (some (.ref f_KeyOrder___getitem__)))
    (fn_KeyOrder___getitem__ : PySem.W.isFn K (.ref f_KeyOrder___getitem__) = true)
    (fi_KeyOrder___getitem__ : PySem.W.fnIn K f_KeyOrder___getitem__ = true)
    (l_KeyOrder___getitem__ : K.lookup f_KeyOrder___getitem__ = some ⟨oc_KeyOrder___getitem__, od_KeyOrder___getitem__, .func (PySem.W.fnOf "__getitem__" "KeyOrder.__getitem__" (defArgs s_KeyOrder___getitem__) (defBody s_KeyOrder___getitem__) (defScope s_KeyOrder___getitem__) .none kV_KeyOrder___getitem__ dc_KeyOrder___getitem__ pm_KeyOrder___getitem__ an_KeyOrder___getitem__ cd_KeyOrder___getitem__ ct_KeyOrder___getitem__), sl_KeyOrder___getitem__⟩)
    (c_KeyOrder___getitem__ : PySem.W.codeIn K cd_KeyOrder___getitem__ "KeyOrder.__getitem__" = true)
    (k_KeyOrder___getitem__ : PySem.W.keepIn K (.ref f_KeyOrder___getitem__) = true)
    (a__law_fits : PySem.W.nsIn K mainGlobals "_law_fits" = some (some (.ref f__law_fits)))
    (l__law_fits : K.lookup f__law_fits = some ⟨oc__law_fits, od__law_fits, .func (PySem.W.fnOf "_law_fits" "_law_fits" (defArgs s__law_fits) (defBody s__law_fits) (defScope s__law_fits) .none kV__law_fits dc__law_fits pm__law_fits an__law_fits cd__law_fits ct__law_fits), sl__law_fits⟩)
    (c__law_fits : PySem.W.codeIn K cd__law_fits "_law_fits" = true)
    (k__law_fits : PySem.W.keepIn K (.ref f__law_fits) = true)
    (a_law : PySem.W.nsIn K mainGlobals "law" = some (some (.ref f_law)))
    (l_law : K.lookup f_law = some ⟨oc_law, od_law, .func (PySem.W.fnOf "law" "law" (defArgs s_law) (defBody s_law) (defScope s_law) .none kV_law dc_law pm_law an_law cd_law ct_law), sl_law⟩)
    (c_law : PySem.W.codeIn K cd_law "law" = true)
    (k_law : PySem.W.keepIn K (.ref f_law) = true)
    (z_all : PySem.W.nsIn K mainGlobals "all" = some none)
    (z_bool : PySem.W.nsIn K mainGlobals "bool" = some none)
    (z_dict : PySem.W.nsIn K mainGlobals "dict" = some none)
    (z_enumerate : PySem.W.nsIn K mainGlobals "enumerate" = some none)
    (z_int : PySem.W.nsIn K mainGlobals "int" = some none)
    (z_isinstance : PySem.W.nsIn K mainGlobals "isinstance" = some none)
    (z_iter : PySem.W.nsIn K mainGlobals "iter" = some none)
    (z_len : PySem.W.nsIn K mainGlobals "len" = some none)
    (z_list : PySem.W.nsIn K mainGlobals "list" = some none)
    (z_range : PySem.W.nsIn K mainGlobals "range" = some none)
    (z_set : PySem.W.nsIn K mainGlobals "set" = some none)
    (z_str : PySem.W.nsIn K mainGlobals "str" = some none)
    (z_super : PySem.W.nsIn K mainGlobals "super" = some none)
    (z_tuple : PySem.W.nsIn K mainGlobals "tuple" = some none)
    (g_LETTERS : PySem.W.nsIn K mainGlobals "LETTERS" = some (some (.str "abcdefghijklmnopqrstuvwxyz" t_LETTERS)))
    (g_LONGEST_NAME : PySem.W.nsIn K mainGlobals "LONGEST_NAME" = some (some (.int 12 t_LONGEST_NAME)))
    (g_RESERVED : PySem.W.nsIn K mainGlobals "RESERVED" = some (some (.ref a_RESERVED)))
    (l_RESERVED : K.lookup a_RESERVED = some ⟨.type "tuple", od_RESERVED, .seq its_RESERVED n_RESERVED, sl_RESERVED⟩)
    (v_RESERVED : Vals [(.str "always"), (.str "never"), (.str "and"), (.str "or"), (.str "not"), (.str "when"), (.str "add"), (.str "set"), (.str "change"), (.str "tell"), (.str "refuse"), (.str "take"), (.str "look"), (.str "free"), (.str "lock"), (.str "keep"), (.str "keys"), (.str "fields")] its_RESERVED.toList)
    (g_BadName : PySem.W.nsIn K mainGlobals "BadName" = some (some (.ref a_BadName)))
    (g_BadOrder : PySem.W.nsIn K mainGlobals "BadOrder" = some (some (.ref a_BadOrder)))
    (g_ElseputError : PySem.W.nsIn K mainGlobals "ElseputError" = some (some (.ref a_ElseputError)))
    (g_UnknownKey : PySem.W.nsIn K mainGlobals "UnknownKey" = some (some (.ref a_UnknownKey)))
    (st_any : PySem.W.nsIn K PySem.cStatics "thirdparty.any" = some none)
    (htop : (l.prog.main.scope.names.lookup ("super" : Str)).isSome = false)
    (xc_BadName : K.lookup a_BadName = some (excClassObj nm_BadName q_BadName a_BadName N_BadName bs_BadName bm_BadName true sn_BadName sub_BadName ab_BadName col_BadName dd_BadName e0_BadName e1_BadName e2_BadName e3_BadName e5_BadName "ValueError.__new__"))
    (ref_BadName : PySem.HandSPX.refsVE bm_BadName = true)
    (sa_BadName : PySem.W.findIn K (.ref a_BadName) "__setattr__" = some (some (.builtin "object.__setattr__")))
    (eb_BadName : PySem.W.subIn K (.ref a_BadName) (.type "BaseException") = some true)
    (ty_BadName : PySem.W.typeIn K (.ref a_BadName) = some (.type "type"))
    (kC_BadName : PySem.W.keepIn K (.ref a_BadName) = true)
    (iC_BadName : PySem.W.findIn K (.ref a_BadName) "__init__" = some (some (.ref f_BadName)))
    (tI_BadName : PySem.W.typeIn K (.ref f_BadName) = some (.type "function"))
    (sup_BadName : PySem.W.ks_superIn K a_BadName a_BadName "__init__" = some (some (.builtin "ValueError.__init__")))
    (sv_BadName : PySem.W.subIn K (.ref a_BadName) (.type "ValueError") = some true)
    (mro_BadName : PySem.W.mroIn K a_BadName (.ref a_BadName) = some true)
    (no0_BadName : PySem.W.findIn K (.ref a_BadName) "name" = some none)
    (ga_BadName : PySem.W.findIn K (.ref a_BadName) "__getattribute__" = some (some (.builtin "BaseException.__getattribute__")))
    (gg_BadName : PySem.W.findIn K (.ref a_BadName) "__getattr__" = some none)
    (hd_BadName : PySem.W.hasDictIn K a_BadName = true)
    (hcl_BadName : PySem.W.findIn K (.ref a_BadName) "__class__" = some (some (.builtin "object.__class__")))
    (hn_BadName : PySem.W.specialIn K (.builtin "object.__class__") "__get__" = some (some (.builtin "getset_descriptor.__get__")))
    (ht_BadName : PySem.W.takesIn K (.builtin "object.__class__") = some true)
    (hm_BadName : PySem.W.mroIn K a_BadName (.type "object") = some true)
    (lf_BadName : K.lookup f_BadName = some ⟨oc_BadName, od_BadName, .func (PySem.W.fnX "__init__" "BadName.__init__" (defArgs s_BadName) (defBody s_BadName) (defScope s_BadName) [("__class__", cc_BadName)] .none .none doc_BadName pm_BadName none (.ref cda_BadName) ct_BadName), osl_BadName⟩)
    (cd_BadName : PySem.W.codeIn K (.ref cda_BadName) "BadName.__init__" = true)
    (lc_BadName : K.lookup cda_BadName = some ⟨ccl_BadName, cdd_BadName, .fields vs_BadName, ccs_BadName⟩)
    (v2_BadName : vs_BadName[2]? = some (.str file_BadName tf_BadName))
    (fe_BadName : ((l.prog.main.file : Str) == file_BadName) = true)
    (lcc_BadName : K.lookup cc_BadName = some ⟨cl_BadName, cld_BadName, .cell (some (.ref a_BadName)), csl_BadName⟩)
    (hD_BadName : PySem.W.clsIn K a_BadName = some cdD_BadName)
    (xc_BadOrder : K.lookup a_BadOrder = some (excClassObj nm_BadOrder q_BadOrder a_BadOrder N_BadOrder bs_BadOrder bm_BadOrder true sn_BadOrder sub_BadOrder ab_BadOrder col_BadOrder dd_BadOrder e0_BadOrder e1_BadOrder e2_BadOrder e3_BadOrder e5_BadOrder "ValueError.__new__"))
    (ref_BadOrder : PySem.HandSPX.refsVE bm_BadOrder = true)
    (sa_BadOrder : PySem.W.findIn K (.ref a_BadOrder) "__setattr__" = some (some (.builtin "object.__setattr__")))
    (eb_BadOrder : PySem.W.subIn K (.ref a_BadOrder) (.type "BaseException") = some true)
    (ty_BadOrder : PySem.W.typeIn K (.ref a_BadOrder) = some (.type "type"))
    (kC_BadOrder : PySem.W.keepIn K (.ref a_BadOrder) = true)
    (iC_BadOrder : PySem.W.findIn K (.ref a_BadOrder) "__init__" = some (some (.ref f_BadOrder)))
    (tI_BadOrder : PySem.W.typeIn K (.ref f_BadOrder) = some (.type "function"))
    (sup_BadOrder : PySem.W.ks_superIn K a_BadOrder a_BadOrder "__init__" = some (some (.builtin "ValueError.__init__")))
    (sv_BadOrder : PySem.W.subIn K (.ref a_BadOrder) (.type "ValueError") = some true)
    (mro_BadOrder : PySem.W.mroIn K a_BadOrder (.ref a_BadOrder) = some true)
    (ga_BadOrder : PySem.W.findIn K (.ref a_BadOrder) "__getattribute__" = some (some (.builtin "BaseException.__getattribute__")))
    (gg_BadOrder : PySem.W.findIn K (.ref a_BadOrder) "__getattr__" = some none)
    (hd_BadOrder : PySem.W.hasDictIn K a_BadOrder = true)
    (hcl_BadOrder : PySem.W.findIn K (.ref a_BadOrder) "__class__" = some (some (.builtin "object.__class__")))
    (hn_BadOrder : PySem.W.specialIn K (.builtin "object.__class__") "__get__" = some (some (.builtin "getset_descriptor.__get__")))
    (ht_BadOrder : PySem.W.takesIn K (.builtin "object.__class__") = some true)
    (hm_BadOrder : PySem.W.mroIn K a_BadOrder (.type "object") = some true)
    (lf_BadOrder : K.lookup f_BadOrder = some ⟨oc_BadOrder, od_BadOrder, .func (PySem.W.fnX "__init__" "BadOrder.__init__" (defArgs s_BadOrder) (defBody s_BadOrder) (defScope s_BadOrder) [("__class__", cc_BadOrder)] .none .none doc_BadOrder pm_BadOrder none (.ref cda_BadOrder) ct_BadOrder), osl_BadOrder⟩)
    (cd_BadOrder : PySem.W.codeIn K (.ref cda_BadOrder) "BadOrder.__init__" = true)
    (lc_BadOrder : K.lookup cda_BadOrder = some ⟨ccl_BadOrder, cdd_BadOrder, .fields vs_BadOrder, ccs_BadOrder⟩)
    (v2_BadOrder : vs_BadOrder[2]? = some (.str file_BadOrder tf_BadOrder))
    (fe_BadOrder : ((l.prog.main.file : Str) == file_BadOrder) = true)
    (lcc_BadOrder : K.lookup cc_BadOrder = some ⟨cl_BadOrder, cld_BadOrder, .cell (some (.ref a_BadOrder)), csl_BadOrder⟩)
    (hD_BadOrder : PySem.W.clsIn K a_BadOrder = some cdD_BadOrder)
    (xc_UnknownKey : K.lookup a_UnknownKey = some (excClassObj nm_UnknownKey q_UnknownKey a_UnknownKey N_UnknownKey bs_UnknownKey bm_UnknownKey true sn_UnknownKey sub_UnknownKey ab_UnknownKey col_UnknownKey dd_UnknownKey e0_UnknownKey e1_UnknownKey e2_UnknownKey e3_UnknownKey e5_UnknownKey "ValueError.__new__"))
    (ref_UnknownKey : PySem.HandSPX.refsVE bm_UnknownKey = true)
    (sa_UnknownKey : PySem.W.findIn K (.ref a_UnknownKey) "__setattr__" = some (some (.builtin "object.__setattr__")))
    (eb_UnknownKey : PySem.W.subIn K (.ref a_UnknownKey) (.type "BaseException") = some true)
    (ty_UnknownKey : PySem.W.typeIn K (.ref a_UnknownKey) = some (.type "type"))
    (kC_UnknownKey : PySem.W.keepIn K (.ref a_UnknownKey) = true)
    (iC_UnknownKey : PySem.W.findIn K (.ref a_UnknownKey) "__init__" = some (some (.ref f_UnknownKey)))
    (tI_UnknownKey : PySem.W.typeIn K (.ref f_UnknownKey) = some (.type "function"))
    (sv_UnknownKey : PySem.W.subIn K (.ref a_UnknownKey) (.type "ValueError") = some true)
    (no0_UnknownKey : PySem.W.findIn K (.ref a_UnknownKey) "name" = some none)
    (ga_UnknownKey : PySem.W.findIn K (.ref a_UnknownKey) "__getattribute__" = some (some (.builtin "BaseException.__getattribute__")))
    (gg_UnknownKey : PySem.W.findIn K (.ref a_UnknownKey) "__getattr__" = some none)
    (hd_UnknownKey : PySem.W.hasDictIn K a_UnknownKey = true)
    (hcl_UnknownKey : PySem.W.findIn K (.ref a_UnknownKey) "__class__" = some (some (.builtin "object.__class__")))
    (hn_UnknownKey : PySem.W.specialIn K (.builtin "object.__class__") "__get__" = some (some (.builtin "getset_descriptor.__get__")))
    (ht_UnknownKey : PySem.W.takesIn K (.builtin "object.__class__") = some true)
    (hm_UnknownKey : PySem.W.mroIn K a_UnknownKey (.type "object") = some true)
    (lf_UnknownKey : K.lookup f_UnknownKey = some ⟨oc_UnknownKey, od_UnknownKey, .func (PySem.W.fnX "__init__" "UnknownName.__init__" (defArgs s_UnknownKey) (defBody s_UnknownKey) (defScope s_UnknownKey) [("__class__", cc_UnknownKey)] .none .none doc_UnknownKey pm_UnknownKey none (.ref cda_UnknownKey) ct_UnknownKey), osl_UnknownKey⟩)
    (cd_UnknownKey : PySem.W.codeIn K (.ref cda_UnknownKey) "UnknownName.__init__" = true)
    (lc_UnknownKey : K.lookup cda_UnknownKey = some ⟨ccl_UnknownKey, cdd_UnknownKey, .fields vs_UnknownKey, ccs_UnknownKey⟩)
    (v2_UnknownKey : vs_UnknownKey[2]? = some (.str file_UnknownKey tf_UnknownKey))
    (fe_UnknownKey : ((l.prog.main.file : Str) == file_UnknownKey) = true)
    (lcc_UnknownKey : K.lookup cc_UnknownKey = some ⟨cl_UnknownKey, cld_UnknownKey, .cell (some (.ref D_UnknownKey)), csl_UnknownKey⟩)
    (sup_UnknownKey : PySem.W.ks_superIn K a_UnknownKey D_UnknownKey "__init__" = some (some (.builtin "ValueError.__init__")))
    (mro_UnknownKey : PySem.W.mroIn K a_UnknownKey (.ref D_UnknownKey) = some true)
    (hD_UnknownKey : PySem.W.clsIn K D_UnknownKey = some cdD_UnknownKey)
    (mb_ElseputError : PySem.W.subIn K (.ref a_ElseputError) (.type "BaseException") = some true)
    (md_ElseputError : PySem.W.hasDictIn K a_ElseputError = true)
    (mt_ElseputError : PySem.W.typeIn K (.ref a_ElseputError) = some (.type "type"))
    (ms_BadName_ElseputError : PySem.W.subIn K (.ref a_BadName) (.ref a_ElseputError) = some true)
    (ms_BadOrder_ElseputError : PySem.W.subIn K (.ref a_BadOrder) (.ref a_ElseputError) = some true)
    (ms_UnknownKey_ElseputError : PySem.W.subIn K (.ref a_UnknownKey) (.ref a_ElseputError) = some true)
    (kit_BadName_BadName : PySem.W.kitOne K (.ref a_BadName) (.ref a_BadName) = some true)
    (kit_BadName_UnknownKey : PySem.W.kitOne K (.ref a_BadName) (.ref a_UnknownKey) = some false)
    (kit_BadName_BadOrder : PySem.W.kitOne K (.ref a_BadName) (.ref a_BadOrder) = some false)
    (kit_BadOrder_BadName : PySem.W.kitOne K (.ref a_BadOrder) (.ref a_BadName) = some false)
    (kit_BadOrder_UnknownKey : PySem.W.kitOne K (.ref a_BadOrder) (.ref a_UnknownKey) = some false)
    (kit_BadOrder_BadOrder : PySem.W.kitOne K (.ref a_BadOrder) (.ref a_BadOrder) = some true)
    (kit_UnknownKey_BadName : PySem.W.kitOne K (.ref a_UnknownKey) (.ref a_BadName) = some false)
    (kit_UnknownKey_UnknownKey : PySem.W.kitOne K (.ref a_UnknownKey) (.ref a_UnknownKey) = some true)
    (kit_UnknownKey_BadOrder : PySem.W.kitOne K (.ref a_UnknownKey) (.ref a_BadOrder) = some false)
    : ∃ fd : FuncData, (∀ (s : Shared) (v : Value), BindsTo s fd ⟨[v], []⟩ [("_law_script", v)]) ∧ ∀ base : Heap, K.In base → base.Ns mainGlobals mg → FnOk l.prog w K mg base CX0 12 fa fd ["_law_script"] (spLaw K) := by
  have e := hfa.symm.trans (PySem.W.mg_of X G a_law)
  cases e
  have XK_BadName : ExK K a_BadName f_BadName ["name"] := exk_mk xc_BadName ref_BadName sa_BadName eb_BadName ty_BadName kC_BadName sup_BadName sv_BadName mro_BadName iC_BadName tI_BadName (fun f hf => by simp only [List.mem_cons, List.not_mem_nil, or_false] at hf; subst hf; exact no0_BadName) ga_BadName gg_BadName hd_BadName hcl_BadName hn_BadName ht_BadName hm_BadName
  have XK_BadOrder : ExK K a_BadOrder f_BadOrder [] := exk_mk xc_BadOrder ref_BadOrder sa_BadOrder eb_BadOrder ty_BadOrder kC_BadOrder sup_BadOrder sv_BadOrder mro_BadOrder iC_BadOrder tI_BadOrder (fun f hf => nomatch hf) ga_BadOrder gg_BadOrder hd_BadOrder hcl_BadOrder hn_BadOrder ht_BadOrder hm_BadOrder
  have XK_UnknownKey : ExI K a_UnknownKey D_UnknownKey f_UnknownKey ["name"] := exi_mk xc_UnknownKey ref_UnknownKey sa_UnknownKey eb_UnknownKey ty_UnknownKey kC_UnknownKey sup_UnknownKey sv_UnknownKey mro_UnknownKey iC_UnknownKey tI_UnknownKey (fun f hf => by simp only [List.mem_cons, List.not_mem_nil, or_false] at hf; subst hf; exact no0_UnknownKey) ga_UnknownKey gg_UnknownKey hd_UnknownKey hcl_UnknownKey hn_UnknownKey ht_UnknownKey hm_UnknownKey
  have T : Gs K mg t_LETTERS t_LONGEST_NAME a_RESERVED a_BadName a_BadOrder a_ElseputError a_KeyOrder a_UnknownKey := { z_all := PySem.W.mg_none_of X G z_all, z_bool := PySem.W.mg_none_of X G z_bool, z_dict := PySem.W.mg_none_of X G z_dict, z_enumerate := PySem.W.mg_none_of X G z_enumerate, z_int := PySem.W.mg_none_of X G z_int, z_isinstance := PySem.W.mg_none_of X G z_isinstance, z_iter := PySem.W.mg_none_of X G z_iter, z_len := PySem.W.mg_none_of X G z_len, z_list := PySem.W.mg_none_of X G z_list, z_range := PySem.W.mg_none_of X G z_range, z_set := PySem.W.mg_none_of X G z_set, z_str := PySem.W.mg_none_of X G z_str, z_super := PySem.W.mg_none_of X G z_super, z_tuple := PySem.W.mg_none_of X G z_tuple, g_LETTERS := PySem.W.mg_of X G g_LETTERS, g_LONGEST_NAME := PySem.W.mg_of X G g_LONGEST_NAME, g_RESERVED := PySem.W.mg_of X G g_RESERVED, g_BadName := PySem.W.mg_of X G g_BadName, g_BadOrder := PySem.W.mg_of X G g_BadOrder, g_ElseputError := PySem.W.mg_of X G g_ElseputError, g_KeyOrder := PySem.W.mg_of X G g_KeyOrder, g_UnknownKey := PySem.W.mg_of X G g_UnknownKey, q_RESERVED := fun _ => .inr ⟨_, _, _, l_RESERVED, rfl, rfl, (by have e : _ = its_RESERVED.size := v_RESERVED.length.trans Array.length_toList; rw [← e]; decide), v_RESERVED⟩, n_ElseputError := g_ElseputError, n_BadName := g_BadName, n_UnknownKey := g_UnknownKey, n_BadOrder := g_BadOrder, n_KeyOrder := g_KeyOrder, x_BadName := ⟨XK_BadName.no, XK_BadName.xf, XK_BadName.is⟩, x_BadOrder := ⟨XK_BadOrder.no, XK_BadOrder.xf, XK_BadOrder.is⟩, x_UnknownKey := ⟨XK_UnknownKey.no, XK_UnknownKey.xf, XK_UnknownKey.is⟩, cl_KeyOrder := ⟨pg_KeyOrder, hx_KeyOrder, po_KeyOrder, st_KeyOrder⟩, rd_KeyOrder := ⟨rr_KeyOrder, rg_KeyOrder⟩, is_KeyOrder := ⟨hcl_KeyOrder, hn_KeyOrder, ht_KeyOrder, hm_KeyOrder⟩, na_KeyOrder_names := na_KeyOrder_names, m_BadName_ElseputError := PySem.W.exm_ref mb_ElseputError md_ElseputError mt_ElseputError ms_BadName_ElseputError, m_BadOrder_ElseputError := PySem.W.exm_ref mb_ElseputError md_ElseputError mt_ElseputError ms_BadOrder_ElseputError, m_UnknownKey_ElseputError := PySem.W.exm_ref mb_ElseputError md_ElseputError mt_ElseputError ms_UnknownKey_ElseputError, k_BadName_BadName := kit_BadName_BadName, k_BadName_UnknownKey := kit_BadName_UnknownKey, k_BadName_BadOrder := kit_BadName_BadOrder, k_BadOrder_BadName := kit_BadOrder_BadName, k_BadOrder_UnknownKey := kit_BadOrder_UnknownKey, k_BadOrder_BadOrder := kit_BadOrder_BadOrder, k_UnknownKey_BadName := kit_UnknownKey_BadName, k_UnknownKey_UnknownKey := kit_UnknownKey_UnknownKey, k_UnknownKey_BadOrder := kit_UnknownKey_BadOrder }
  have F_is_name := fun_mk (st := s_is_name) l_is_name c_is_name k_is_name
  have b_is_name := F_is_name.binds (ps := ["text"]) fun _ _ _ _ _ _ us hl => match us, hl with | [_], _ => rfl
  have F_check_name := fun_mk (st := s_check_name) l_check_name c_check_name k_check_name
  have b_check_name := F_check_name.binds (ps := ["text"]) fun _ _ _ _ _ _ us hl => match us, hl with | [_], _ => rfl
  have F__law_state := fun_mk (st := s__law_state) l__law_state c__law_state k__law_state
  have b__law_state := F__law_state.binds (ps := ["_law_script"]) fun _ _ _ _ _ _ us hl => match us, hl with | [_], _ => rfl
  have F__law_draw := fun_mk (st := s__law_draw) l__law_draw c__law_draw k__law_draw
  have b__law_draw := F__law_draw.binds (ps := ["_law_state_here", "_law_many"]) fun _ _ _ _ _ _ us hl => match us, hl with | [_, _], _ => rfl
  have F__law_pick := fun_mk (st := s__law_pick) l__law_pick c__law_pick k__law_pick
  have b__law_pick := F__law_pick.binds (ps := ["_law_state_here", "_law_row"]) fun _ _ _ _ _ _ us hl => match us, hl with | [_, _], _ => rfl
  have F__law_mixed := fun_mk (st := s__law_mixed) l__law_mixed c__law_mixed k__law_mixed
  have b__law_mixed := F__law_mixed.binds (ps := ["_law_state_here", "_law_row"]) fun _ _ _ _ _ _ us hl => match us, hl with | [_, _], _ => rfl
  have F__law_names := fun_mk (st := s__law_names) l__law_names c__law_names k__law_names
  have b__law_names := F__law_names.binds (ps := ["_law_state_here", "_law_many"]) fun _ _ _ _ _ _ us hl => match us, hl with | [_, _], _ => rfl
  have F__law_is_int := fun_mk (st := s__law_is_int) l__law_is_int c__law_is_int k__law_is_int
  have b__law_is_int := F__law_is_int.binds (ps := ["_law_thing"]) fun _ _ _ _ _ _ us hl => match us, hl with | [_], _ => rfl
  have F__law_same := fun_mk (st := s__law_same) l__law_same c__law_same k__law_same
  have b__law_same := F__law_same.binds (ps := ["_law_actual", "_law_due_here"]) fun _ _ _ _ _ _ us hl => match us, hl with | [_, _], _ => rfl
  have F__law_bad_name := fun_mk (st := s__law_bad_name) l__law_bad_name c__law_bad_name k__law_bad_name
  have b__law_bad_name := F__law_bad_name.binds (ps := ["_law_state_here", "_law_good"]) fun _ _ _ _ _ _ us hl => match us, hl with | [_, _], _ => rfl
  have F_KeyOrder___init__ := fun_mk (st := s_KeyOrder___init__) l_KeyOrder___init__ c_KeyOrder___init__ k_KeyOrder___init__
  have b_KeyOrder___init__ := F_KeyOrder___init__.binds (ps := ["self", "names"]) fun _ _ _ _ _ _ us hl => match us, hl with | [_, _], _ => rfl
  have F_KeyOrder___add__ := fun_mk (st := s_KeyOrder___add__) l_KeyOrder___add__ c_KeyOrder___add__ k_KeyOrder___add__
  have b_KeyOrder___add__ := F_KeyOrder___add__.binds (ps := ["self", "name"]) fun _ _ _ _ _ _ us hl => match us, hl with | [_, _], _ => rfl
  have F_KeyOrder___radd__ := fun_mk (st := s_KeyOrder___radd__) l_KeyOrder___radd__ c_KeyOrder___radd__ k_KeyOrder___radd__
  have b_KeyOrder___radd__ := F_KeyOrder___radd__.binds (ps := ["self", "name"]) fun _ _ _ _ _ _ us hl => match us, hl with | [_, _], _ => rfl
  have F_KeyOrder___iadd__ := fun_mk (st := s_KeyOrder___iadd__) l_KeyOrder___iadd__ c_KeyOrder___iadd__ k_KeyOrder___iadd__
  have b_KeyOrder___iadd__ := F_KeyOrder___iadd__.binds (ps := ["self", "name"]) fun _ _ _ _ _ _ us hl => match us, hl with | [_, _], _ => rfl
  have F_KeyOrder___sub__ := fun_mk (st := s_KeyOrder___sub__) l_KeyOrder___sub__ c_KeyOrder___sub__ k_KeyOrder___sub__
  have b_KeyOrder___sub__ := F_KeyOrder___sub__.binds (ps := ["self", "name"]) fun _ _ _ _ _ _ us hl => match us, hl with | [_, _], _ => rfl
  have F_KeyOrder___invert__ := fun_mk (st := s_KeyOrder___invert__) l_KeyOrder___invert__ c_KeyOrder___invert__ k_KeyOrder___invert__
  have b_KeyOrder___invert__ := F_KeyOrder___invert__.binds (ps := ["self"]) fun _ _ _ _ _ _ us hl => match us, hl with | [_], _ => rfl
  have F__law_deed := fun_mk (st := s__law_deed) l__law_deed c__law_deed k__law_deed
  have b__law_deed := F__law_deed.binds (ps := ["_law_order", "_law_kind", "_law_name"]) fun _ _ _ _ _ _ us hl => match us, hl with | [_, _, _], _ => rfl
  have F__law_due := fun_mk (st := s__law_due) l__law_due c__law_due k__law_due
  have b__law_due := F__law_due.binds (ps := ["_law_row", "_law_kind", "_law_name", "_law_names_here"]) fun _ _ _ _ _ _ us hl => match us, hl with | [_, _, _, _], _ => rfl
  have F_KeyOrder___contains__ := fun_mk (st := s_KeyOrder___contains__) l_KeyOrder___contains__ c_KeyOrder___contains__ k_KeyOrder___contains__
  have b_KeyOrder___contains__ := F_KeyOrder___contains__.binds (ps := ["self", "name"]) fun _ _ _ _ _ _ us hl => match us, hl with | [_, _], _ => rfl
  have F_KeyOrder___iter__ := fun_mk (st := s_KeyOrder___iter__) l_KeyOrder___iter__ c_KeyOrder___iter__ k_KeyOrder___iter__
  have b_KeyOrder___iter__ := F_KeyOrder___iter__.binds (ps := ["self"]) fun _ _ _ _ _ _ us hl => match us, hl with | [_], _ => rfl
  have F_KeyOrder___len__ := fun_mk (st := s_KeyOrder___len__) l_KeyOrder___len__ c_KeyOrder___len__ k_KeyOrder___len__
  have b_KeyOrder___len__ := F_KeyOrder___len__.binds (ps := ["self"]) fun _ _ _ _ _ _ us hl => match us, hl with | [_], _ => rfl
  have F_KeyOrder___getitem__ := fun_mk (st := s_KeyOrder___getitem__) l_KeyOrder___getitem__ c_KeyOrder___getitem__ k_KeyOrder___getitem__
  have b_KeyOrder___getitem__ := F_KeyOrder___getitem__.binds (ps := ["self", "name"]) fun _ _ _ _ _ _ us hl => match us, hl with | [_, _], _ => rfl
  have F__law_fits := fun_mk (st := s__law_fits) l__law_fits c__law_fits k__law_fits
  have b__law_fits := F__law_fits.binds (ps := ["_law_order", "_law_row"]) fun _ _ _ _ _ _ us hl => match us, hl with | [_, _], _ => rfl
  have F_law := fun_mk (st := s_law) l_law c_law k_law
  have b_law := F_law.binds (ps := ["_law_script"]) fun _ _ _ _ _ _ us hl => match us, hl with | [_], _ => rfl
  refine ⟨PySem.W.fnOf "law" "law" (defArgs s_law) (defBody s_law) (defScope s_law) .none kV_law dc_law pm_law an_law cd_law ct_law, fun s v => .of_eq rfl, fun base _ _ => ?_⟩
  have C_BadName : CalE l.prog w K mg base 1 "BadName" a_BadName f_BadName _ ["self", "name"] okx_BadName fs_BadName ["name"] := ⟨ok_BadName XK_BadName lf_BadName cd_BadName lc_BadName v2_BadName fe_BadName lcc_BadName hD_BadName (PySem.W.mg_none_of X G z_super) st_any htop, .all fun us hl => (match us, hl with | [_, _], _ => rfl), XK_BadName, PySem.W.mg_of X G g_BadName⟩
  have C_BadOrder : CalE0 l.prog w K mg base 1 "BadOrder" a_BadOrder f_BadOrder _ ["self"] := ⟨ok_BadOrder XK_BadOrder lf_BadOrder cd_BadOrder lc_BadOrder v2_BadOrder fe_BadOrder lcc_BadOrder hD_BadOrder (PySem.W.mg_none_of X G z_super) st_any htop, .all fun us hl => (match us, hl with | [_], _ => rfl), XK_BadOrder, PySem.W.mg_of X G g_BadOrder⟩
  have C_UnknownKey : CalEI l.prog w K mg base 1 "UnknownKey" a_UnknownKey f_UnknownKey _ ["self", "name"] okx_UnknownKey fs_UnknownKey ["name"] := ⟨ok_UnknownKey XK_UnknownKey lf_UnknownKey cd_UnknownKey lc_UnknownKey v2_UnknownKey fe_UnknownKey lcc_UnknownKey hD_UnknownKey (PySem.W.mg_none_of X G z_super) st_any htop, .all fun us hl => (match us, hl with | [_, _], _ => rfl), ⟨_, XK_UnknownKey⟩, PySem.W.mg_of X G g_UnknownKey⟩
  have C_is_name : Cal l.prog w K mg base CX0 1 "is_name" f_is_name _ ["text"] (sp_is_name K) := ⟨ok_is_name F_is_name T, b_is_name, k_is_name, PySem.W.mg_of X G a_is_name⟩
  have C_check_name : Cal l.prog w K mg base (L2.CX l.prog w) 3 "check_name" f_check_name _ ["text"] (sp_check_name K) := ⟨ok_check_name F_check_name T C_is_name C_BadName, b_check_name, k_check_name, PySem.W.mg_of X G a_check_name⟩
  have C__law_state : Cal l.prog w K mg base CX0 1 "_law_state" f__law_state _ ["_law_script"] (sp__law_state K) := ⟨ok__law_state F__law_state T, b__law_state, k__law_state, PySem.W.mg_of X G a__law_state⟩
  have C__law_draw : Cal l.prog w K mg base CX0 1 "_law_draw" f__law_draw _ ["_law_state_here", "_law_many"] (sp__law_draw K) := ⟨ok__law_draw F__law_draw T, b__law_draw, k__law_draw, PySem.W.mg_of X G a__law_draw⟩
  have C__law_pick : Cal l.prog w K mg base CX0 2 "_law_pick" f__law_pick _ ["_law_state_here", "_law_row"] (sp__law_pick K) := ⟨ok__law_pick F__law_pick T C__law_draw, b__law_pick, k__law_pick, PySem.W.mg_of X G a__law_pick⟩
  have C__law_mixed : Cal l.prog w K mg base CX0 2 "_law_mixed" f__law_mixed _ ["_law_state_here", "_law_row"] (sp__law_mixed K) := ⟨ok__law_mixed F__law_mixed T C__law_draw, b__law_mixed, k__law_mixed, PySem.W.mg_of X G a__law_mixed⟩
  have C__law_names : Cal l.prog w K mg base CX0 2 "_law_names" f__law_names _ ["_law_state_here", "_law_many"] (sp__law_names K) := ⟨ok__law_names F__law_names T C__law_draw, b__law_names, k__law_names, PySem.W.mg_of X G a__law_names⟩
  have C__law_is_int : Cal l.prog w K mg base CX0 1 "_law_is_int" f__law_is_int _ ["_law_thing"] (sp__law_is_int K) := ⟨ok__law_is_int F__law_is_int T, b__law_is_int, k__law_is_int, PySem.W.mg_of X G a__law_is_int⟩
  have C__law_same : Cal l.prog w K mg base CX0 6 "_law_same" f__law_same _ ["_law_actual", "_law_due_here"] (sp__law_same K) := ⟨ok__law_same F__law_same T C__law_is_int b__law_same k__law_same (PySem.W.mg_of X G a__law_same), b__law_same, k__law_same, PySem.W.mg_of X G a__law_same⟩
  have C__law_bad_name : Cal l.prog w K mg base CX0 3 "_law_bad_name" f__law_bad_name _ ["_law_state_here", "_law_good"] (sp__law_bad_name K) := ⟨ok__law_bad_name F__law_bad_name T C__law_draw C__law_pick, b__law_bad_name, k__law_bad_name, PySem.W.mg_of X G a__law_bad_name⟩
  have C_KeyOrder___init__ : CalI l.prog w K mg base (L2.CX l.prog w) 4 "KeyOrder" a_KeyOrder f_KeyOrder___init__ _ ["self", "names"] (sp_KeyOrder___init__ K) := ⟨⟨ok_KeyOrder___init__ F_KeyOrder___init__ T C_check_name C_BadOrder, b_KeyOrder___init__⟩, ⟨mi_KeyOrder, fa_KeyOrder___init__, fn_KeyOrder___init__, ko_KeyOrder⟩, PySem.W.mg_of X G g_KeyOrder⟩
  have C_KeyOrder___add__ : CalT l.prog w K mg base (L2.CX l.prog w) 6 a_KeyOrder .Add f_KeyOrder___add__ _ ["self", "name"] (sp_KeyOrder___add__ K) := ⟨⟨ok_KeyOrder___add__ F_KeyOrder___add__ T C_KeyOrder___init__, b_KeyOrder___add__⟩, ⟨⟨sf_KeyOrder, fa_KeyOrder___add__, fn_KeyOrder___add__⟩, ⟨_, rh_KeyOrder___add__, .inr ⟨_, rfl⟩⟩, ⟨_, rf_KeyOrder___add__⟩, ⟨_, rr_KeyOrder___add__⟩, rs_KeyOrder___add__⟩⟩
  have C_KeyOrder___radd__ : CalRad l.prog w K mg base (L2.CX l.prog w) 6 a_KeyOrder f_KeyOrder___radd__ _ ["self", "name"] (sp_KeyOrder___radd__ K) := ⟨⟨ok_KeyOrder___radd__ F_KeyOrder___radd__ T C_KeyOrder___init__, b_KeyOrder___radd__⟩, ⟨sf_KeyOrder, ⟨_, rm_KeyOrder___radd__⟩, fa_KeyOrder___radd__, fn_KeyOrder___radd__⟩⟩
  have C_KeyOrder___iadd__ : CalInp l.prog w K mg base (L2.CX l.prog w) 7 a_KeyOrder .Add f_KeyOrder___iadd__ _ ["self", "name"] (sp_KeyOrder___iadd__ K) := ⟨⟨ok_KeyOrder___iadd__ F_KeyOrder___iadd__ T C_KeyOrder___add__, b_KeyOrder___iadd__⟩, ⟨sf_KeyOrder, fa_KeyOrder___iadd__, fn_KeyOrder___iadd__⟩⟩
  have C_KeyOrder___sub__ : CalT l.prog w K mg base (L2.CX l.prog w) 6 a_KeyOrder .Sub f_KeyOrder___sub__ _ ["self", "name"] (sp_KeyOrder___sub__ K) := ⟨⟨ok_KeyOrder___sub__ F_KeyOrder___sub__ T C_KeyOrder___init__ C_UnknownKey, b_KeyOrder___sub__⟩, ⟨⟨sf_KeyOrder, fa_KeyOrder___sub__, fn_KeyOrder___sub__⟩, ⟨_, rh_KeyOrder___sub__, .inl rfl⟩, ⟨_, rf_KeyOrder___sub__⟩, ⟨_, rr_KeyOrder___sub__⟩, rs_KeyOrder___sub__⟩⟩
  have C_KeyOrder___invert__ : CalInv l.prog w K mg base (L2.CX l.prog w) 6 a_KeyOrder f_KeyOrder___invert__ _ ["self"] (sp_KeyOrder___invert__ K) := ⟨⟨ok_KeyOrder___invert__ F_KeyOrder___invert__ T C_KeyOrder___init__, b_KeyOrder___invert__⟩, ⟨fa_KeyOrder___invert__, fn_KeyOrder___invert__⟩⟩
  have C__law_deed : Cal l.prog w K mg base CX0 8 "_law_deed" f__law_deed _ ["_law_order", "_law_kind", "_law_name"] (sp__law_deed K) := ⟨ok__law_deed F__law_deed T C_KeyOrder___add__ C_KeyOrder___radd__ C_KeyOrder___iadd__ C_KeyOrder___sub__ C_KeyOrder___invert__, b__law_deed, k__law_deed, PySem.W.mg_of X G a__law_deed⟩
  have C__law_due : Cal l.prog w K mg base CX0 1 "_law_due" f__law_due _ ["_law_row", "_law_kind", "_law_name", "_law_names_here"] (sp__law_due K) := ⟨ok__law_due F__law_due T, b__law_due, k__law_due, PySem.W.mg_of X G a__law_due⟩
  have C_KeyOrder___contains__ : CalIn l.prog w K mg base CX0 1 a_KeyOrder f_KeyOrder___contains__ _ ["self", "name"] (sp_KeyOrder___contains__ K) := ⟨⟨ok_KeyOrder___contains__ F_KeyOrder___contains__ T, b_KeyOrder___contains__⟩, ⟨fa_KeyOrder___contains__, fn_KeyOrder___contains__⟩⟩
  have C_KeyOrder___iter__ : CalIt l.prog w K mg base CX0 1 a_KeyOrder f_KeyOrder___iter__ (sp_KeyOrder___iter__ K) := ⟨ok_KeyOrder___iter__ F_KeyOrder___iter__ b_KeyOrder___iter__ T, ⟨fa_KeyOrder___iter__, fn_KeyOrder___iter__⟩⟩
  have C_KeyOrder___len__ : CalL l.prog w K mg base CX0 1 a_KeyOrder f_KeyOrder___len__ _ ["self"] (sp_KeyOrder___len__ K) := ⟨⟨ok_KeyOrder___len__ F_KeyOrder___len__ T, b_KeyOrder___len__⟩, ⟨fa_KeyOrder___len__, fn_KeyOrder___len__⟩⟩
  have C_KeyOrder___getitem__ : CalSub l.prog w K mg base (L2.CX l.prog w) 3 a_KeyOrder f_KeyOrder___getitem__ _ ["self", "name"] (sp_KeyOrder___getitem__ K) := ⟨⟨ok_KeyOrder___getitem__ F_KeyOrder___getitem__ T C_UnknownKey, b_KeyOrder___getitem__⟩, ⟨fa_KeyOrder___getitem__, fn_KeyOrder___getitem__, fi_KeyOrder___getitem__⟩⟩
  have C__law_fits : Cal l.prog w K mg base CX0 8 "_law_fits" f__law_fits _ ["_law_order", "_law_row"] (sp__law_fits K) := ⟨ok__law_fits F__law_fits T C__law_same C_KeyOrder___contains__ C_KeyOrder___iter__ C_KeyOrder___len__ C_KeyOrder___getitem__, b__law_fits, k__law_fits, PySem.W.mg_of X G a__law_fits⟩
  exact ok_law F_law T C__law_state C__law_names C__law_mixed C__law_draw C__law_pick C__law_due C__law_deed C__law_bad_name C__law_same C__law_fits C_KeyOrder___init__
theorem walk {l : PySem.W.OpenLaw} {q : Program} {loose : List Str} {XP : (Str → Option Value) → Heap → Prop} {YP : World → Heap → Prop} {d : DefRec} {K : Params → PySem.W.Frag} (hn : l.most = some 63) (hdf : d.params.defaults = [])
    (hY : ∀ (w : World) (h : Heap), YP w h → (K w.params).In h)
    (F : ∀ (w : World) (mg : Str → Option Value) (fa : Addr) (h : Heap), (K w.params).In h → h.Ns mainGlobals mg → mg d.name = some (.ref fa) →
      ∃ fd : FuncData, (∀ (s : Shared) (u : Value), BindsTo s fd ⟨[u], []⟩ [("_law_script", u)]) ∧ ∀ base : Heap, (K w.params).In base → base.Ns mainGlobals mg → FnOk l.prog w (K w.params) mg base CX0 12 fa fd ["_law_script"] (spLaw (K w.params))) :
    PySem.W.WalkO q loose XP YP l.row.toRowW d [] (fun f vs => PySem.call f vs) :=
  L2.walk_of (n := 63) (k := 12) (x := "_law_script") (CX := fun _ => CX0) (sp := fun w => spLaw (K w.params)) hn (by decide) hdf ⟨rfl, by decide, by decide⟩ hY F (fun _ _ a ns hl _ hS => ⟨a, ns, rfl, hS, hl, fun _ => rfl⟩) fun _ _ _ _ _ z => z
end K25
open PySem PySem.W PyProof.Rows
set_option maxRecDepth 100000 in
set_option maxHeartbeats 0 in
theorem PySem.Challenge.cw_elseput_k25_orders_by_operators_holds : PySem.Challenge.rw_elseput_k25_orders_by_operators.Holds := by
  w_on; o_law; k_head; (case hw => w_witness2)
  k_fill
  refine K25.walk (l := PySem.Challenge.rw_elseput_k25_orders_by_operators) rfl rfl (fun w h Y => PySem.W.kIn_of Y) ?F
  case F =>
    intro w mg fa h KX G hmg
    refine' K25.all_mk KX G hmg ?g_KeyOrder ?pg_KeyOrder ?hx_KeyOrder ?po_KeyOrder ?st_KeyOrder ?rr_KeyOrder ?rg_KeyOrder ?mi_KeyOrder ?ko_KeyOrder ?sf_KeyOrder ?hcl_KeyOrder ?hn_KeyOrder ?ht_KeyOrder ?hm_KeyOrder ?na_KeyOrder_names ?a_is_name ?l_is_name ?c_is_name ?k_is_name ?a_check_name ?l_check_name ?c_check_name ?k_check_name ?a__law_state ?l__law_state ?c__law_state ?k__law_state ?a__law_draw ?l__law_draw ?c__law_draw ?k__law_draw ?a__law_pick ?l__law_pick ?c__law_pick ?k__law_pick ?a__law_mixed ?l__law_mixed ?c__law_mixed ?k__law_mixed ?a__law_names ?l__law_names ?c__law_names ?k__law_names ?a__law_is_int ?l__law_is_int ?c__law_is_int ?k__law_is_int ?a__law_same ?l__law_same ?c__law_same ?k__law_same ?a__law_bad_name ?l__law_bad_name ?c__law_bad_name ?k__law_bad_name ?fa_KeyOrder___init__ ?fn_KeyOrder___init__ ?l_KeyOrder___init__ ?c_KeyOrder___init__ ?k_KeyOrder___init__ ?rh_KeyOrder___add__ ?rf_KeyOrder___add__ ?rr_KeyOrder___add__ ?rs_KeyOrder___add__ ?fa_KeyOrder___add__ ?fn_KeyOrder___add__ ?l_KeyOrder___add__ ?c_KeyOrder___add__ ?k_KeyOrder___add__ ?rm_KeyOrder___radd__ ?fa_KeyOrder___radd__ ?fn_KeyOrder___radd__ ?l_KeyOrder___radd__ ?c_KeyOrder___radd__ ?k_KeyOrder___radd__ ?fa_KeyOrder___iadd__ ?fn_KeyOrder___iadd__ ?l_KeyOrder___iadd__ ?c_KeyOrder___iadd__ ?k_KeyOrder___iadd__ ?rh_KeyOrder___sub__ ?rf_KeyOrder___sub__ ?rr_KeyOrder___sub__ ?rs_KeyOrder___sub__ ?fa_KeyOrder___sub__ ?fn_KeyOrder___sub__ ?l_KeyOrder___sub__ ?c_KeyOrder___sub__ ?k_KeyOrder___sub__ ?fa_KeyOrder___invert__ ?fn_KeyOrder___invert__ ?l_KeyOrder___invert__ ?c_KeyOrder___invert__ ?k_KeyOrder___invert__ ?a__law_deed ?l__law_deed ?c__law_deed ?k__law_deed ?a__law_due ?l__law_due ?c__law_due ?k__law_due ?fa_KeyOrder___contains__ ?fn_KeyOrder___contains__ ?l_KeyOrder___contains__ ?c_KeyOrder___contains__ ?k_KeyOrder___contains__ ?fa_KeyOrder___iter__ ?fn_KeyOrder___iter__ ?l_KeyOrder___iter__ ?c_KeyOrder___iter__ ?k_KeyOrder___iter__ ?fa_KeyOrder___len__ ?fn_KeyOrder___len__ ?l_KeyOrder___len__ ?c_KeyOrder___len__ ?k_KeyOrder___len__ ?fa_KeyOrder___getitem__ ?fn_KeyOrder___getitem__ ?fi_KeyOrder___getitem__ ?l_KeyOrder___getitem__ ?c_KeyOrder___getitem__ ?k_KeyOrder___getitem__ ?a__law_fits ?l__law_fits ?c__law_fits ?k__law_fits ?a_law ?l_law ?c_law ?k_law ?z_all ?z_bool ?z_dict ?z_enumerate ?z_int ?z_isinstance ?z_iter ?z_len ?z_list ?z_range ?z_set ?z_str ?z_super ?z_tuple ?g_LETTERS ?g_LONGEST_NAME ?g_RESERVED ?l_RESERVED ?v_RESERVED ?g_BadName ?g_BadOrder ?g_ElseputError ?g_UnknownKey ?st_any ?htop ?xc_BadName ?ref_BadName ?sa_BadName ?eb_BadName ?ty_BadName ?kC_BadName ?iC_BadName ?tI_BadName ?sup_BadName ?sv_BadName ?mro_BadName ?no0_BadName ?ga_BadName ?gg_BadName ?hd_BadName ?hcl_BadName ?hn_BadName ?ht_BadName ?hm_BadName ?lf_BadName ?cd_BadName ?lc_BadName ?v2_BadName ?fe_BadName ?lcc_BadName ?hD_BadName ?xc_BadOrder ?ref_BadOrder ?sa_BadOrder ?eb_BadOrder ?ty_BadOrder ?kC_BadOrder ?iC_BadOrder ?tI_BadOrder ?sup_BadOrder ?sv_BadOrder ?mro_BadOrder ?ga_BadOrder ?gg_BadOrder ?hd_BadOrder ?hcl_BadOrder ?hn_BadOrder ?ht_BadOrder ?hm_BadOrder ?lf_BadOrder ?cd_BadOrder ?lc_BadOrder ?v2_BadOrder ?fe_BadOrder ?lcc_BadOrder ?hD_BadOrder ?xc_UnknownKey ?ref_UnknownKey ?sa_UnknownKey ?eb_UnknownKey ?ty_UnknownKey ?kC_UnknownKey ?iC_UnknownKey ?tI_UnknownKey ?sv_UnknownKey ?no0_UnknownKey ?ga_UnknownKey ?gg_UnknownKey ?hd_UnknownKey ?hcl_UnknownKey ?hn_UnknownKey ?ht_UnknownKey ?hm_UnknownKey ?lf_UnknownKey ?cd_UnknownKey ?lc_UnknownKey ?v2_UnknownKey ?fe_UnknownKey ?lcc_UnknownKey ?sup_UnknownKey ?mro_UnknownKey ?hD_UnknownKey ?mb_ElseputError ?md_ElseputError ?mt_ElseputError ?ms_BadName_ElseputError ?ms_BadOrder_ElseputError ?ms_UnknownKey_ElseputError ?kit_BadName_BadName ?kit_BadName_UnknownKey ?kit_BadName_BadOrder ?kit_BadOrder_BadName ?kit_BadOrder_UnknownKey ?kit_BadOrder_BadOrder ?kit_UnknownKey_BadName ?kit_UnknownKey_UnknownKey ?kit_UnknownKey_BadOrder
    (case g_KeyOrder => k_is)
    (case pg_KeyOrder => k_is)
    (case hx_KeyOrder => k_is)
    (case po_KeyOrder => k_is)
    (case st_KeyOrder => k_is)
    (case rr_KeyOrder => k_is)
    (case rg_KeyOrder => k_is)
    (case mi_KeyOrder => k_is)
    (case ko_KeyOrder => k_is)
    (case sf_KeyOrder => k_is)
    (case hcl_KeyOrder => k_is)
    (case hn_KeyOrder => k_is)
    (case ht_KeyOrder => k_is)
    (case hm_KeyOrder => k_is)
    (case na_KeyOrder_names => k_is)
    (case a_is_name => k_is)
    (case l_is_name => k_is)
    (case c_is_name => k_is)
    (case k_is_name => k_is)
    (case a_check_name => k_is)
    (case l_check_name => k_is)
    (case c_check_name => k_is)
    (case k_check_name => k_is)
    (case a__law_state => k_is)
    (case l__law_state => k_is)
    (case c__law_state => k_is)
    (case k__law_state => k_is)
    (case a__law_draw => k_is)
    (case l__law_draw => k_is)
    (case c__law_draw => k_is)
    (case k__law_draw => k_is)
    (case a__law_pick => k_is)
    (case l__law_pick => k_is)
    (case c__law_pick => k_is)
    (case k__law_pick => k_is)
    (case a__law_mixed => k_is)
    (case l__law_mixed => k_is)
    (case c__law_mixed => k_is)
    (case k__law_mixed => k_is)
    (case a__law_names => k_is)
    (case l__law_names => k_is)
    (case c__law_names => k_is)
    (case k__law_names => k_is)
    (case a__law_is_int => k_is)
    (case l__law_is_int => k_is)
    (case c__law_is_int => k_is)
    (case k__law_is_int => k_is)
    (case a__law_same => k_is)
    (case l__law_same => k_is)
    (case c__law_same => k_is)
    (case k__law_same => k_is)
    (case a__law_bad_name => k_is)
    (case l__law_bad_name => k_is)
    (case c__law_bad_name => k_is)
    (case k__law_bad_name => k_is)
    (case fa_KeyOrder___init__ => k_is)
    (case fn_KeyOrder___init__ => k_is)
    (case l_KeyOrder___init__ => k_is)
    (case c_KeyOrder___init__ => k_is)
    (case k_KeyOrder___init__ => k_is)
    (case rh_KeyOrder___add__ => k_is)
    (case rf_KeyOrder___add__ => k_is)
    (case rr_KeyOrder___add__ => k_is)
    (case rs_KeyOrder___add__ => k_is)
    (case fa_KeyOrder___add__ => k_is)
    (case fn_KeyOrder___add__ => k_is)
    (case l_KeyOrder___add__ => k_is)
    (case c_KeyOrder___add__ => k_is)
    (case k_KeyOrder___add__ => k_is)
    (case rm_KeyOrder___radd__ => k_is)
    (case fa_KeyOrder___radd__ => k_is)
    (case fn_KeyOrder___radd__ => k_is)
    (case l_KeyOrder___radd__ => k_is)
    (case c_KeyOrder___radd__ => k_is)
    (case k_KeyOrder___radd__ => k_is)
    (case fa_KeyOrder___iadd__ => k_is)
    (case fn_KeyOrder___iadd__ => k_is)
    (case l_KeyOrder___iadd__ => k_is)
    (case c_KeyOrder___iadd__ => k_is)
    (case k_KeyOrder___iadd__ => k_is)
    (case rh_KeyOrder___sub__ => k_is)
    (case rf_KeyOrder___sub__ => k_is)
    (case rr_KeyOrder___sub__ => k_is)
    (case rs_KeyOrder___sub__ => k_is)
    (case fa_KeyOrder___sub__ => k_is)
    (case fn_KeyOrder___sub__ => k_is)
    (case l_KeyOrder___sub__ => k_is)
    (case c_KeyOrder___sub__ => k_is)
    (case k_KeyOrder___sub__ => k_is)
    (case fa_KeyOrder___invert__ => k_is)
    (case fn_KeyOrder___invert__ => k_is)
    (case l_KeyOrder___invert__ => k_is)
    (case c_KeyOrder___invert__ => k_is)
    (case k_KeyOrder___invert__ => k_is)
    (case a__law_deed => k_is)
    (case l__law_deed => k_is)
    (case c__law_deed => k_is)
    (case k__law_deed => k_is)
    (case a__law_due => k_is)
    (case l__law_due => k_is)
    (case c__law_due => k_is)
    (case k__law_due => k_is)
    (case fa_KeyOrder___contains__ => k_is)
    (case fn_KeyOrder___contains__ => k_is)
    (case l_KeyOrder___contains__ => k_is)
    (case c_KeyOrder___contains__ => k_is)
    (case k_KeyOrder___contains__ => k_is)
    (case fa_KeyOrder___iter__ => k_is)
    (case fn_KeyOrder___iter__ => k_is)
    (case l_KeyOrder___iter__ => k_is)
    (case c_KeyOrder___iter__ => k_is)
    (case k_KeyOrder___iter__ => k_is)
    (case fa_KeyOrder___len__ => k_is)
    (case fn_KeyOrder___len__ => k_is)
    (case l_KeyOrder___len__ => k_is)
    (case c_KeyOrder___len__ => k_is)
    (case k_KeyOrder___len__ => k_is)
    (case fa_KeyOrder___getitem__ => k_is)
    (case fn_KeyOrder___getitem__ => k_is)
    (case fi_KeyOrder___getitem__ => k_is)
    (case l_KeyOrder___getitem__ => k_is)
    (case c_KeyOrder___getitem__ => k_is)
    (case k_KeyOrder___getitem__ => k_is)
    (case a__law_fits => k_is)
    (case l__law_fits => k_is)
    (case c__law_fits => k_is)
    (case k__law_fits => k_is)
    (case a_law => k_is)
    (case l_law => k_is)
    (case c_law => k_is)
    (case k_law => k_is)
    (case z_all => k_is)
    (case z_bool => k_is)
    (case z_dict => k_is)
    (case z_enumerate => k_is)
    (case z_int => k_is)
    (case z_isinstance => k_is)
    (case z_iter => k_is)
    (case z_len => k_is)
    (case z_list => k_is)
    (case z_range => k_is)
    (case z_set => k_is)
    (case z_str => k_is)
    (case z_super => k_is)
    (case z_tuple => k_is)
    (case g_LETTERS => k_is)
    (case g_LONGEST_NAME => k_is)
    (case g_RESERVED => k_is)
    (case l_RESERVED => k_is)
    (case v_RESERVED => (repeat' first | exact .nil | refine .cons ⟨_, rfl⟩ ?_))
    (case g_BadName => k_is)
    (case g_BadOrder => k_is)
    (case g_ElseputError => k_is)
    (case g_UnknownKey => k_is)
    (case st_any => k_is)
    (case htop => first | rfl | decide +kernel | k_is)
    (case xc_BadName => k_is)
    (case ref_BadName => first | rfl | decide +kernel | k_is)
    (case sa_BadName => k_is)
    (case eb_BadName => k_is)
    (case ty_BadName => k_is)
    (case kC_BadName => k_is)
    (case iC_BadName => k_is)
    (case tI_BadName => k_is)
    (case sup_BadName => ks_is)
    (case sv_BadName => k_is)
    (case mro_BadName => k_is)
    (case no0_BadName => k_is)
    (case ga_BadName => k_is)
    (case gg_BadName => k_is)
    (case hd_BadName => k_is)
    (case hcl_BadName => k_is)
    (case hn_BadName => k_is)
    (case ht_BadName => k_is)
    (case hm_BadName => k_is)
    (case lf_BadName => k_is)
    (case cd_BadName => k_is)
    (case lc_BadName => k_is)
    (case v2_BadName => first | rfl | decide +kernel | k_is)
    (case fe_BadName => first | rfl | decide +kernel | k_is)
    (case lcc_BadName => k_is)
    (case hD_BadName => k_is)
    (case xc_BadOrder => k_is)
    (case ref_BadOrder => first | rfl | decide +kernel | k_is)
    (case sa_BadOrder => k_is)
    (case eb_BadOrder => k_is)
    (case ty_BadOrder => k_is)
    (case kC_BadOrder => k_is)
    (case iC_BadOrder => k_is)
    (case tI_BadOrder => k_is)
    (case sup_BadOrder => ks_is)
    (case sv_BadOrder => k_is)
    (case mro_BadOrder => k_is)
    (case ga_BadOrder => k_is)
    (case gg_BadOrder => k_is)
    (case hd_BadOrder => k_is)
    (case hcl_BadOrder => k_is)
    (case hn_BadOrder => k_is)
    (case ht_BadOrder => k_is)
    (case hm_BadOrder => k_is)
    (case lf_BadOrder => k_is)
    (case cd_BadOrder => k_is)
    (case lc_BadOrder => k_is)
    (case v2_BadOrder => first | rfl | decide +kernel | k_is)
    (case fe_BadOrder => first | rfl | decide +kernel | k_is)
    (case lcc_BadOrder => k_is)
    (case hD_BadOrder => k_is)
    (case xc_UnknownKey => k_is)
    (case ref_UnknownKey => first | rfl | decide +kernel | k_is)
    (case sa_UnknownKey => k_is)
    (case eb_UnknownKey => k_is)
    (case ty_UnknownKey => k_is)
    (case kC_UnknownKey => k_is)
    (case iC_UnknownKey => k_is)
    (case tI_UnknownKey => k_is)
    (case sv_UnknownKey => k_is)
    (case no0_UnknownKey => k_is)
    (case ga_UnknownKey => k_is)
    (case gg_UnknownKey => k_is)
    (case hd_UnknownKey => k_is)
    (case hcl_UnknownKey => k_is)
    (case hn_UnknownKey => k_is)
    (case ht_UnknownKey => k_is)
    (case hm_UnknownKey => k_is)
    (case lf_UnknownKey => k_is)
    (case cd_UnknownKey => k_is)
    (case lc_UnknownKey => k_is)
    (case v2_UnknownKey => first | rfl | decide +kernel | k_is)
    (case fe_UnknownKey => first | rfl | decide +kernel | k_is)
    (case lcc_UnknownKey => k_is)
    (case sup_UnknownKey => ks_is)
    (case mro_UnknownKey => k_is)
    (case hD_UnknownKey => k_is)
    (case mb_ElseputError => k_is)
    (case md_ElseputError => k_is)
    (case mt_ElseputError => k_is)
    (case ms_BadName_ElseputError => k_is)
    (case ms_BadOrder_ElseputError => k_is)
    (case ms_UnknownKey_ElseputError => k_is)
    (case kit_BadName_BadName => kit_is)
    (case kit_BadName_UnknownKey => kit_is)
    (case kit_BadName_BadOrder => kit_is)
    (case kit_BadOrder_BadName => kit_is)
    (case kit_BadOrder_UnknownKey => kit_is)
    (case kit_BadOrder_BadOrder => kit_is)
    (case kit_UnknownKey_BadName => kit_is)
    (case kit_UnknownKey_UnknownKey => kit_is)
    (case kit_UnknownKey_BadOrder => kit_is)
